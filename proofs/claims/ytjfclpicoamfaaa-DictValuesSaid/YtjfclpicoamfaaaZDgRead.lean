/- What the program's readers answer: taken, readMark, readEntry. -/
import Derived.Test.YtjfclpicoamfaaaZDiHelp
import Derived.Laws.Rows
import Derived.StillTailTactics
import Derived.Lib.AppendStr
import Derived.OwnWalk
import Derived.Deep.RegionLaw

set_option maxRecDepth 100000
namespace Go.Proofs.Ytjfclpicoamfaaa.Di
open Go.RowKit
open Fr (rdV rdT bs)
theorem keepD {w w' : World} {g : Nat} {o : Obj} (h : w.heap[g]? = some o) (hb : Below w.heap.size w w') : w'.heap[g]? = some o := (hb.block g (Array.getElem?_eq_some_iff.1 h).1).trans h
theorem ltD {w : World} {g : Nat} {o : Obj} (h : w.heap[g]? = some o) : g < w.heap.size := (Array.getElem?_eq_some_iff.1 h).1
theorem set4_heap {W : World} {Z : Nat} {a b c d : Value} {t : TypeId} (h : W.heap[Z]? = some (.cells #[a, b, c, d] t (0, 0))) (a' b' c' d' : Value) :
  ((((W.setCell ⟨Z, 0, none⟩ a').setCell ⟨Z, 1, none⟩ b').setCell ⟨Z, 2, none⟩ c').setCell ⟨Z, 3, none⟩ d').heap[Z]? = some (.cells #[a', b', c', d'] t (0, 0)) := by
 rw [heap_setCell_at (heap_setCell_at (heap_setCell_at (heap_setCell_at h _) _) _) _]; rfl
theorem set3_heap {W : World} {Z : Nat} {a b c : Value} {t : TypeId} (h : W.heap[Z]? = some (.cells #[a, b, c] t (0, 0))) (a' b' c' : Value) :
  (((W.setCell ⟨Z, 0, none⟩ a').setCell ⟨Z, 1, none⟩ b').setCell ⟨Z, 2, none⟩ c').heap[Z]? = some (.cells #[a', b', c'] t (0, 0)) := by
 rw [heap_setCell_at (heap_setCell_at (heap_setCell_at h _) _) _]; rfl
theorem set4_below {B : Nat} {w W : World} {Z : Nat} (h : Below B w W) (hz : B <= Z) (a b c d : Value) : Below B w ((((W.setCell ⟨Z, 0, none⟩ a).setCell ⟨Z, 1, none⟩ b).setCell ⟨Z, 2, none⟩ c).setCell ⟨Z, 3, none⟩ d) :=
 (((h.setCell (p := ⟨Z, 0, none⟩) hz a).setCell (p := ⟨Z, 1, none⟩) hz b).setCell (p := ⟨Z, 2, none⟩) hz c).setCell (p := ⟨Z, 3, none⟩) hz d
theorem set3_below {B : Nat} {w W : World} {Z : Nat} (h : Below B w W) (hz : B <= Z) (a b c : Value) : Below B w (((W.setCell ⟨Z, 0, none⟩ a).setCell ⟨Z, 1, none⟩ b).setCell ⟨Z, 2, none⟩ c) :=
 ((h.setCell (p := ⟨Z, 0, none⟩) hz a).setCell (p := ⟨Z, 1, none⟩) hz b).setCell (p := ⟨Z, 2, none⟩) hz c
set_option maxHeartbeats 2000000 in
theorem takenU_any (v : Int) (r : ByteArray) (b : Bool) (w : World) : Calls Try.prog 45 #[.int .u64 v, .string r, .bool b] w fun e w' => e = .returned (.agg #[.int .u64 v, .string r, .bool b]) /\ Below w.heap.size w w' := by
 go_enter Try.func45, Try.ntmps45
 go_wp2_with fail
 refine bodyPost_ret (v := .agg #[.int .u64 v, .string r, .bool b]) (results_cell_row rfl _ _ w.heap.size 85 _ _ _ rfl (heap_newD _ _) Try.underlying85 rfl (by kernel_rfl)) rfl ?_
 exact ⟨rfl, (Below.refl _ w).alloc (Nat.le_refl _) _⟩
set_option maxHeartbeats 2000000 in
theorem takenS_any (v : ByteArray) (r : ByteArray) (b : Bool) (w : World) : Calls Try.prog 48 #[.string v, .string r, .bool b] w fun e w' => e = .returned (.agg #[.string v, .string r, .bool b]) /\ Below w.heap.size w w' := by
 go_enter Try.func48, Try.ntmps48
 go_wp2_with fail
 refine bodyPost_ret (v := .agg #[.string v, .string r, .bool b]) (results_cell_row rfl _ _ w.heap.size 93 _ _ _ rfl (heap_newD _ _) Try.underlying93 rfl (by kernel_rfl)) rfl ?_
 exact ⟨rfl, (Below.refl _ w).alloc (Nat.le_refl _) _⟩
set_option maxHeartbeats 2000000 in
theorem pdmark_gen (s X R Q : ByteArray) (v : Int) (b1 b2 : Bool) (w : World) (CT : ∀ W, Calls Try.prog 49 #[.string s] W fun e w' => e = .returned (.tuple #[.string X, .string R, .bool b1]) /\ Below W.heap.size W w')
  (CV : ∀ W, Calls Try.prog 46 #[.string R] W fun e w' => e = .returned (.tuple #[.int .u64 v, .string Q, .bool b2]) /\ Below W.heap.size W w') :
  Calls Try.prog 47 #[.string s] w fun e w' => e = .returned (.agg #[.string X, .int .u64 v, .string Q, .bool b2]) /\ Below w.heap.size w w' := by
 have CT := Lib.hid CT
 have CV := Lib.hid CV
 have KS := Lib.hid takenS_any
 have KU := Lib.hid takenU_any
 obtain ⟨W0, hW0⟩ : ∃ W0, w.alloc (.cells #[.string ⟨#[]⟩, .int .u64 0, .string ⟨#[]⟩, .bool false] 90) = W0 := ⟨_, rfl⟩
 have HW0 := Lib.hid hW0
 have HB0 : Hid (Below w.heap.size w W0) := by show Below _ _ _; rw [<- hW0]; exact (Below.refl _ w).alloc (Nat.le_refl _) _
 obtain ⟨Z, hZ⟩ : ∃ Z, w.heap.size = Z := ⟨_, rfl⟩
 have HO0 : Hid (W0.heap[Z]? = some (.cells #[.string ⟨#[]⟩, .int .u64 0, .string ⟨#[]⟩, .bool false] 90 (0, 0))) := by show _ = _; rw [<- hW0, <- hZ]; exact heap_newD _ _
 have HZ := Lib.hid hZ
 clear hW0
 go_enter Try.func47, Try.ntmps47
 go_wp2_with fail
 rw [HW0.out]
 refine (CT.out _).mono ?_
 rintro e w1 ⟨rfl, hb1⟩
 have HB1 := Lib.hid (HB0.out.trans (hb1.mono HB0.out.size))
 have HO1 := Lib.hid (keepD HO0.out hb1)
 clear hb1
 go_wp2_with fail
 refine (KS.out _ _ _ _).mono ?_
 rintro e w2 ⟨rfl, hb2⟩
 have HB2 := Lib.hid (HB1.out.trans (hb2.mono HB1.out.size))
 have HO2 := Lib.hid (keepD HO1.out hb2)
 clear hb2
 obtain ⟨Y, hY⟩ : ∃ Y, w2.heap.size = Y := ⟨_, rfl⟩
 obtain ⟨W3, hW3⟩ : ∃ W3, w2.alloc (.cells #[.string X, .string R, .bool b1] 93) = W3 := ⟨_, rfl⟩
 have HW3 := Lib.hid hW3
 have hO3 : W3.heap[Y]? = some (.cells #[.string X, .string R, .bool b1] 93 (0, 0)) := by rw [<- hW3, <- hY]; exact heap_newD _ _
 have HB3 : Hid (Below w.heap.size w W3) := by show Below _ _ _; rw [<- hW3]; exact HB2.out.alloc HB2.out.size _
 have HZ3 : Hid (W3.heap[Z]? = some (.cells #[.string ⟨#[]⟩, .int .u64 0, .string ⟨#[]⟩, .bool false] 90 (0, 0))) := by show _ = _; rw [<- hW3]; exact keepD HO2.out ((Below.refl _ w2).alloc (Nat.le_refl _) _)
 have c31 := cell_atD hO3 1
 have HO3 := Lib.hid hO3
 clear hO3 hW3 hZ
 go_wp2_with fail
 rw [HW3.out]
 go_wp2_with fail
 refine (CV.out _).mono ?_
 rintro e w4 ⟨rfl, hb4⟩
 have HB4 := Lib.hid (HB3.out.trans (hb4.mono HB3.out.size))
 have HZ4 := Lib.hid (keepD HZ3.out hb4)
 have HO4 := Lib.hid (keepD HO3.out hb4)
 clear hb4 c31
 go_wp2_with fail
 refine (KU.out _ _ _ _).mono ?_
 rintro e w5 ⟨rfl, hb5⟩
 have HB5 := Lib.hid (HB4.out.trans (hb5.mono HB4.out.size))
 have HZ5 := Lib.hid (keepD HZ4.out hb5)
 have HO5 := Lib.hid (keepD HO4.out hb5)
 clear hb5
 obtain ⟨V, hV⟩ : ∃ V, w5.heap.size = V := ⟨_, rfl⟩
 obtain ⟨W6, hW6⟩ : ∃ W6, w5.alloc (.cells #[.int .u64 v, .string Q, .bool b2] 85) = W6 := ⟨_, rfl⟩
 have HW6 := Lib.hid hW6
 have hO6 : W6.heap[V]? = some (.cells #[.int .u64 v, .string Q, .bool b2] 85 (0, 0)) := by rw [<- hW6, <- hV]; exact heap_newD _ _
 have hbx : Below w5.heap.size w5 W6 := by rw [<- hW6]; exact (Below.refl _ w5).alloc (Nat.le_refl _) _
 have HB6 : Hid (Below w.heap.size w W6) := HB5.out.trans (hbx.mono HB5.out.size)
 have hZ6 := keepD HZ5.out hbx
 have hY6 := keepD HO5.out hbx
 have d0 : (w5.alloc (.cells #[.int .u64 v, .string Q, .bool b2] 85)).cell? ⟨Y, 0, none⟩ = some (.string X) := by rw [hW6]; exact cell_atD hY6 0
 have d1 : (w5.alloc (.cells #[.int .u64 v, .string Q, .bool b2] 85)).cell? ⟨V, 0, none⟩ = some (.int .u64 v) := by rw [hW6]; exact cell_atD hO6 0
 have d2 : (w5.alloc (.cells #[.int .u64 v, .string Q, .bool b2] 85)).cell? ⟨V, 1, none⟩ = some (.string Q) := by rw [hW6]; exact cell_atD hO6 1
 have d3 : (w5.alloc (.cells #[.int .u64 v, .string Q, .bool b2] 85)).cell? ⟨V, 2, none⟩ = some (.bool b2) := by rw [hW6]; exact cell_atD hO6 2
 have z0 : (w5.alloc (.cells #[.int .u64 v, .string Q, .bool b2] 85)).cell? ⟨Z, 0, none⟩ = some (.string ⟨#[]⟩) := by rw [hW6]; exact cell_atD hZ6 0
 have f0 : (w5.alloc (.cells #[.int .u64 v, .string Q, .bool b2] 85)).frozen? ⟨Z, 0, none⟩ = false := by rw [hW6]; exact free_at hZ6 0
 have z1 : (w5.alloc (.cells #[.int .u64 v, .string Q, .bool b2] 85)).cell? ⟨Z, 1, none⟩ = some (.int .u64 0) := by rw [hW6]; exact cell_atD hZ6 1
 have f1 : (w5.alloc (.cells #[.int .u64 v, .string Q, .bool b2] 85)).frozen? ⟨Z, 1, none⟩ = false := by rw [hW6]; exact free_at hZ6 1
 have z2 : (w5.alloc (.cells #[.int .u64 v, .string Q, .bool b2] 85)).cell? ⟨Z, 2, none⟩ = some (.string ⟨#[]⟩) := by rw [hW6]; exact cell_atD hZ6 2
 have f2 : (w5.alloc (.cells #[.int .u64 v, .string Q, .bool b2] 85)).frozen? ⟨Z, 2, none⟩ = false := by rw [hW6]; exact free_at hZ6 2
 have z3 : (w5.alloc (.cells #[.int .u64 v, .string Q, .bool b2] 85)).cell? ⟨Z, 3, none⟩ = some (.bool false) := by rw [hW6]; exact cell_atD hZ6 3
 have f3 : (w5.alloc (.cells #[.int .u64 v, .string Q, .bool b2] 85)).frozen? ⟨Z, 3, none⟩ = false := by rw [hW6]; exact free_at hZ6 3
 have HZ6 := Lib.hid hZ6
 clear hbx hO6 hW6 hZ6 hY6
 have HF : Hid (Below w.heap.size w (((((w5.alloc (.cells #[.int .u64 v, .string Q, .bool b2] 85)).setCell ⟨Z, 0, none⟩ (.string X)).setCell ⟨Z, 1, none⟩ (.int .u64 v)).setCell ⟨Z, 2, none⟩ (.string Q)).setCell ⟨Z, 3, none⟩ (.bool b2))) := by
  show Below _ _ _
  rw [HW6.out]
  exact set4_below HB6.out (by rw [HZ.out]; exact Nat.le_refl _) _ _ _ _
 have HR := Lib.hid (set4_heap HZ6.out (.string X) (.int .u64 v) (.string Q) (.bool b2))
 rw [<- HW6.out] at HR
 go_wp2_with fail
 exact bodyPost_ret (v := .agg #[.string X, .int .u64 v, .string Q, .bool b2]) (results_cell_row rfl _ _ Z 90 _ _ _ rfl HR.out Try.underlying90 rfl (by kernel_rfl)) rfl ⟨rfl, HF.out⟩
end Go.Proofs.Ytjfclpicoamfaaa.Di
/- The program's Right. -/
set_option maxRecDepth 100000
namespace Go.Proofs.Ytjfclpicoamfaaa.Di
open Go.RowKit
open Fr (bs)
def lastT (L : List En) (i : Nat) : ByteArray := match (L.take i).getLast? with
 | some y => y.t
 | none => ⟨#[]⟩
theorem last_zero (L : List En) : lastT L 0 = ⟨#[]⟩ := rfl
theorem last_succ {L : List En} {i : Nat} (h : i < L.length) : lastT L (i + 1) = L[i].t := by
 unfold lastT
 rw [List.take_succ_eq_append_getElem h, List.getLast?_concat]
theorem last_pos {L : List En} {i : Nat} (h : i < L.length) (hp : 0 < i) : lastT L i = L[i - 1].t := by
 have := last_succ (L := L) (i := i - 1) (by omega)
 rwa [show i - 1 + 1 = i by omega] at this
theorem last_prev (L : List En) (i : Nat) : (lastT L i).data.toList = prevT L i := by
 unfold lastT prevT
 cases (L.take i).getLast? <;> rfl
theorem nil_less {x : ByteArray} : less ⟨#[]⟩ x = true ↔ 1 <= x.size := by
 have hl := str_len x
 unfold less
 rw [ByteArray.toList_eq, ByteArray.toList_eq]
 show Op.bytesLess [] x.data.toList = true ↔ _
 generalize x.data.toList = m at *
 cases m with
 | nil =>
  rw [List.length_nil] at hl
  exact ⟨fun h => by simp [Op.bytesLess] at h, fun h => by omega⟩
 | cons a r =>
  rw [List.length_cons] at hl
  exact ⟨fun _ => by omega, fun _ => rfl⟩
theorem last_no {L : List En} {i : Nat} (h : i < L.length) (hl : less (lastT L i) L[i].t = false) : ¬ okE L[i] \/ ∃ hp : 0 < i, ¬ upE L[i - 1] L[i] := by
 by_cases hp : i = 0
 ·subst hp
  left
  intro ho
  rw [last_zero] at hl
  rw [nil_less.2 ho.1] at hl
  cases hl
 ·right
  refine ⟨by omega, fun hu => ?_⟩
  rw [last_pos h (by omega)] at hl
  rw [show less L[i - 1].t L[i].t = true from hu] at hl
  cases hl
theorem last_yes {L : List En} {i : Nat} (h : i < L.length) (hl : less (lastT L i) L[i].t = true) : (1 <= L[i].t.size) /\ ∀ hp : 0 < i, upE L[i - 1] L[i] := by
 refine ⟨?_, fun hp => ?_⟩
 ·by_cases hp : i = 0
  ·subst hp; exact nil_less.1 hl
  ·refine nil_less.1 ?_
   cases e : less ⟨#[]⟩ L[i].t with
   | true => rfl
   | false =>
    have h0 : ¬ 1 <= L[i].t.size := fun h => by rw [nil_less.2 h] at e; cases e
    have h1 : L[i].t = ⟨#[]⟩ := by
     apply ByteArray.ext
     have : L[i].t.data.size = 0 := by have : L[i].t.size = L[i].t.data.size := rfl; omega
     exact Array.eq_empty_of_size_eq_zero this
    rw [h1] at hl
    have : less (lastT L i) ⟨#[]⟩ = false := by
     unfold less
     rw [show (ByteArray.mk #[]).toList = [] from by simp]
     cases (lastT L i).toList <;> rfl
    rw [this] at hl; cases hl
 ·rw [last_pos h hp] at hl
  exact hl
set_option maxHeartbeats 8000000 in
theorem pdright_all (L : List En) (v : Value) (w : World) (h : SlD w v L) (hn : L.length <= maxLen) (hz : ∀ x ∈ L, x.t.size <= maxLen /\ x.v.size <= maxLen) : Calls Try.prog 13 #[v] w fun e w' => e = .returned (.bool (decide (RightD L))) /\ Below w.heap.size w w' := by
 obtain ⟨ao, c, rfl, _, hc⟩ := h
 have HC := Lib.hid hc
 have HZ := Lib.hid hz
 obtain ⟨n, hl⟩ : ∃ n, L.length = n := ⟨_, rfl⟩
 have HN := Lib.hid hl
 obtain ⟨q, hq⟩ : ∃ q, decide (RightD L) = q := ⟨_, rfl⟩
 have HQ := Lib.hid hq
 rw [hl, hq]
 rw [hl] at hn
 unfold maxLen at hn
 clear hl hc hz hq
 by_cases hmany : 1048576 < n
 ·have HF : Hid (q = false) := by
   show _ = _
   rw [<- HQ.out]
   exact decide_eq_false fun h => by have := h.1; rw [HN.out] at this; omega
  have h1 : (1048576 : Int) < (n : Int) := by omega
  go_enter Try.func13, Try.ntmps13
  go_wp2_with fail
  go_ret
  exact ⟨congrArg (fun b => Ending.returned (.bool b)) HF.out.symm, Below.refl _ _⟩
 ·have h1 : ¬ (1048576 : Int) < (n : Int) := by omega
  go_enter Try.func13, Try.ntmps13
  go_wp2_with fail
  go_loopw [3, 11] (fun lv iv wr => ∃ (i : Nat) (la : ByteArray), i <= n /\ lv = .string la /\ iv = .int .i64 (i : Int) /\ Hid (la = lastT L i) /\ Hid (Below w.heap.size w wr) /\ Hid ((∀ x ∈ L.take i, okE x) /\ (L.take i).Pairwise upE)) (fun _ iv _ => n - (intOf iv).toNat)
  case atStart => exact ⟨0, ⟨#[]⟩, Nat.zero_le _, rfl, rfl, rfl, Below.refl _ _, fun x hx => by simp at hx, by simp⟩
  case round =>
   obtain ⟨i, la, hi, rfl, rfl, HLa, HB, HR⟩ := hrel
   by_cases hlt : i < n
   ·have hiz : (i : Int) < (n : Int) := by omega
    have hiL : i < L.length := by rw [HN.out]; exact hlt
    obtain ⟨g, off, rfl, hg, c1, c2⟩ := HC.out i hiL
    have x1 := (HB.out.cell (p := ⟨g, _, none⟩) hg).trans c1
    have x2 := (HB.out.cell (p := ⟨g, _, none⟩) hg).trans c2
    obtain ⟨z1, z2⟩ := HZ.out L[i] (List.getElem_mem hiL)
    unfold maxLen at z1 z2
    have HNo : Hid (¬ okE L[i] \/ (∃ hp : 0 < i, ¬ upE L[i - 1] L[i]) -> q = false) := fun h => by
     rw [<- HQ.out]; exact decide_eq_false (right_no hiL h)
    have HYes : Hid (okE L[i] -> (∀ hp : 0 < i, upE L[i - 1] L[i]) -> (∀ x ∈ L.take (i + 1), okE x) /\ (L.take (i + 1)).Pairwise upE) := fun h1 h2 => ⟨ok_take hiL HR.out.1 h1, pair_upto hiL HR.out.2 h2⟩
    have HOk : Hid (okE L[i] ↔ 1 <= L[i].t.size /\ L[i].t.size <= 40 /\ L[i].v.size <= 4194304) := Iff.rfl
    have HLn : Hid (less la L[i].t = false -> q = false) := fun h => HNo.out (last_no hiL (by rw [<- HLa.out]; exact h))
    have HLy : Hid (less la L[i].t = true -> (1 <= L[i].t.size) /\ ∀ hp : 0 < i, upE L[i - 1] L[i]) := fun h => last_yes hiL (by rw [<- HLa.out]; exact h)
    have HLs : Hid (lastT L (i + 1) = L[i].t) := last_succ hiL
    have HNo2 : Hid (¬ okE L[i] -> q = false) := fun h => HNo.out (.inl h)
    have h3 : 0 <= (i : Int) := by omega
    have h4 : (i : Int).toNat = i := rfl
    obtain ⟨X, hX⟩ : ∃ X, wr.heap.size = X := ⟨_, rfl⟩
    obtain ⟨xt, hxt⟩ : ∃ xt, L[i].t = xt := ⟨_, rfl⟩
    obtain ⟨xv, hxv⟩ : ∃ xv, L[i].v = xv := ⟨_, rfl⟩
    rw [hxt] at x1 z1 HOk HLn HLy HLs
    rw [hxv] at x2 z2 HOk
    have HX : Hid ((wr.alloc (.cells #[.string xt, .string xv] 43)).heap[X]? = some (.cells #[.string xt, .string xv] 43 (0, 0))) := by show _ = _; rw [<- hX]; exact heap_newD _ _
    have HBx : Hid (Below w.heap.size w (wr.alloc (.cells #[.string xt, .string xv] 43))) := HB.out.alloc HB.out.size _
    have y0 : (wr.alloc (.cells #[.string xt, .string xv] 43)).cell? ⟨X, 0, none⟩ = some (.string xt) := cell_atD HX.out 0
    have y1 : (wr.alloc (.cells #[.string xt, .string xv] 43)).cell? ⟨X, 1, none⟩ = some (.string xv) := cell_atD HX.out 1
    clear c1 c2 hg HNo hxt hxv HB
    cases hle : less la xt with
    | false =>
     have HF := Lib.hid (HLn.out hle)
     have g1 : Op.bytesLess la.toList xt.toList = false := hle
     have g2 : (Op.bytesLess xt.toList la.toList || xt.toList == la.toList) = true := by
      cases e : Op.bytesLess xt.toList la.toList with
      | true => rfl
      | false =>
       rw [less_total (a := xt) (b := la) e hle]
       simp
     clear hle
     go_wp2_with fail
     go_ret
     exact ⟨congrArg (fun b => Ending.returned (.bool b)) HF.out.symm, HBx.out⟩
    | true =>
     have HY := Lib.hid (HLy.out hle)
     have g1 : Op.bytesLess xt.toList la.toList = false := less_asymm hle
     have g2 : (xt.toList == la.toList) = false := Fr.str_diff fun e => by rw [e, less_irr] at hle; cases hle
     clear hle
     by_cases z4 : 40 < xt.size
     ·have HF := Lib.hid (HNo2.out fun h => by have := (HOk.out.1 h).2.1; omega)
      have b1 : decide ((40 : Int) < (xt.size : Int)) = true := decide_eq_true (by omega)
      go_wp2_with fail
      go_ret
      exact ⟨congrArg (fun b => Ending.returned (.bool b)) HF.out.symm, HBx.out⟩
     ·have b1 : decide ((40 : Int) < (xt.size : Int)) = false := decide_eq_false (by omega)
      by_cases z5 : 4194304 < xv.size
      ·have HF := Lib.hid (HNo2.out fun h => by have := (HOk.out.1 h).2.2; omega)
       have b2 : decide ((4194304 : Int) < (xv.size : Int)) = true := decide_eq_true (by omega)
       go_wp2_with fail
       go_ret
       exact ⟨congrArg (fun b => Ending.returned (.bool b)) HF.out.symm, HBx.out⟩
      ·have b2 : decide ((4194304 : Int) < (xv.size : Int)) = false := decide_eq_false (by omega)
       have HF := Lib.hid (HYes.out (HOk.out.2 ⟨HY.out.1, by omega, by omega⟩) HY.out.2)
       go_wp2_with fail
       go_roundw
       case rel => exact ⟨i + 1, xt, by omega, rfl, by go_num, HLs.out.symm, HBx.out, HF.out⟩
       case measure => simp [intOf]; omega
   ·obtain rfl : i = n := by omega
    have hiz : ¬ (i : Int) < (i : Int) := by omega
    have HF : Hid (q = true) := by
     have h1 := HR.out.1
     have h2 := HR.out.2
     rw [List.take_of_length_le (by rw [HN.out]; exact Nat.le_refl _)] at h1 h2
     show _ = _
     rw [<- HQ.out]
     exact decide_eq_true ⟨by rw [HN.out]; omega, h1, h2⟩
    go_wp2_with fail
    go_ret
    exact ⟨congrArg (fun b => Ending.returned (.bool b)) HF.out.symm, HB.out⟩
end Go.Proofs.Ytjfclpicoamfaaa.Di
/- The program's alike and packed: the bytes of a block. -/
set_option maxRecDepth 100000
namespace Go.Proofs.Ytjfclpicoamfaaa.Di
open Go.RowKit
open Fr (varL textL bs BRow cellsB)
set_option maxHeartbeats 4000000 in
theorem pdalike_any (a b : ByteArray) (w : World) (ha : a.size <= 9223372036854775807) (hb : b.size <= 9223372036854775807) : Calls Try.prog 34 #[.string a, .string b] w fun e w' => e = .returned (.int .i64 (alike a.data.toList b.data.toList : Nat)) /\ Below w.heap.size w w' := by
 obtain ⟨h1, h2⟩ := alike_le a.data.toList b.data.toList
 rw [str_len] at h1 h2
 have HN : Hid (∀ n (hn : n <= alike a.data.toList b.data.toList) (g1 : n < a.size) (g2 : n < b.size), (a[n] = b[n] ↔ n < alike a.data.toList b.data.toList)) := fun n hn g1 g2 => alike_next _ _ n hn (by simpa using g1) (by simpa using g2)
 generalize alike a.data.toList b.data.toList = m at *
 go_enter Try.func34, Try.ntmps34
 go_wp2_with fail
 go_loopw [5] (fun nv wr => ∃ n : Nat, n <= m /\ nv = .int .i64 (n : Int) /\ Hid (Below w.heap.size w wr)) (fun nv _ => m - (intOf nv).toNat)
 case atStart => exact ⟨0, Nat.zero_le _, rfl, Below.refl _ _⟩
 case round =>
  obtain ⟨n, hn, rfl, HB⟩ := hrel
  have HD : Hid (∀ nq, Below w.heap.size w (wr.drewN nq)) := fun nq => by have := HB.out; exact ⟨this.os, this.tape, this.output, this.size, this.block⟩
  have h3 : 0 <= (n : Int) := by omega
  have h4 : (n : Int).toNat = n := rfl
  by_cases hmin : n < a.size /\ n < b.size
  ·obtain ⟨ha1, hb1⟩ := hmin
   have haz : (n : Int) < (a.size : Int) := by omega
   have hbz : (n : Int) < (b.size : Int) := by omega
   have hmz : decide ((n : Int) < min (a.size : Int) (b.size : Int)) = true := decide_eq_true (by omega)
   have hE := HN.out n hn ha1 hb1
   by_cases he : a[n] = b[n]
   ·have hlt := hE.1 he
    have he2 : ((a[n].toNat : Int) == (b[n].toNat : Int)) = true := by rw [he]; simp
    go_wp2_with fail
    go_quiet (fail)
    go_wp2_with fail
    go_roundw
    case rel => exact ⟨n + 1, by omega, by go_num, HD.out nq⟩
    case measure => simp [intOf]; omega
   ·have hmn : n = m := by
     have : ¬ n < m := fun h => he (hE.2 h)
     omega
    subst hmn
    have he2 : ((a[n].toNat : Int) == (b[n].toNat : Int)) = false := beq_eq_false_iff_ne.2 fun h => he (UInt8.toNat_inj.1 (by omega))
    go_wp2_with fail
    go_quiet (fail)
    go_wp2_with fail
    go_ret
    exact ⟨rfl, HD.out nq⟩
  ·obtain rfl : n = m := by omega
   have hmz : decide ((n : Int) < min (a.size : Int) (b.size : Int)) = false := decide_eq_false (by omega)
   go_wp2_with fail
   go_quiet (fail)
   go_wp2_with fail
   go_ret
   exact ⟨rfl, HD.out nq⟩
theorem brow_appD {B : Nat} {w : World} {v : Value} {l : List UInt8} (h : BRow B w v l) (hB : B <= w.heap.size) (s : ByteArray) (hn : l.length + s.size <= 10000000000000) :
  ∃ v' w', (Builtin.append_ #[38, 9] 38 #[v, .string s]).run Try.prog w = .ok v' w' /\ BRow B w' v' (l ++ s.data.toList) /\ w.grownBy w' v.ownBlock /\ ∀ k, v'.ownBlock = some k -> v.ownBlock = some k \/ w.heap.size <= k := by
 obtain ⟨i0, hi, hz0, hz1, hz2⟩ := info_parts Try.infoB
 obtain ⟨v', w', hr, h1, h2, h3⟩ := Lib.run_append_own_string (P := Try.prog) w B 38 9 38 5 i0 Try.underlying38 Try.underlying9 hi hz0 hz1 hz2 v l.length (cellsB l) h s (by unfold maxLen; omega) (by omega) hB
 refine ⟨v', w', hr, ?_, h2, ?_⟩
 ·show World.ownsRow _ _ _ _ _ _ _
  have e : cellsB l ++ Lib.strCells s = cellsB (l ++ s.data.toList) := by rw [Fr.cellsB_append]; rfl
  have e2 : (l ++ s.data.toList).length = l.length + s.size := by simp
  rw [e2, <- e]
  exact h1
 ·intro k hk
  have hxl : (cellsB l).length = l.length := Fr.cellsB_length l
  rcases h.2 with ⟨rfl, hz⟩ | ⟨g, cap, cur, rfl, hbg, hg, hnc, hcm, hcs, htake⟩
  ·by_cases hm : s.size = 0
   ·rw [h3.2 ⟨rfl, hm⟩] at hk; cases hk
   ·have hr2 := run_append_nil_string (P := Try.prog) w 38 9 38 5 i0 (.int .u8 0) Try.underlying38 Try.underlying9 hi hz0 s (by omega) (by omega) (by rw [hz2]; omega)
    rw [hr] at hr2
    cases hr2
    have : w.heap.size = k := by injection hk
    exact .inr (by omega)
  ·by_cases hroom : l.length + s.size <= cap
   ·have hr2 := Lib.run_append_room_string (P := Try.prog) w 38 9 38 5 i0 Try.underlying38 Try.underlying9 hi hz1 g l.length cap cur hg s hroom (by omega)
    rw [hr] at hr2
    cases hr2
    exact .inl hk
   ·have hr2 := Lib.run_append_grow_string (P := Try.prog) w 38 9 38 5 i0 (.int .u8 0) Try.underlying38 Try.underlying9 hi hz0 ⟨g, 0, none⟩ l.length cap (cellsB l) (by rw [hz1, hxl]; omega) (World.ownsRow.cells (g := g) h rfl) s (by omega) (by omega) (by rw [hz2]; exact growslice_fits (by omega) (by omega))
    rw [hr] at hr2
    cases hr2
    have : w.heap.size = k := by injection hk
    exact .inr (by omega)
theorem wpList_brow_appD {ops : Array Oper} {rest : List Oper} {o : Oper} {a : Act} {w : World} {Q : Exit -> Act -> World -> Prop} (hgd : o.guard = none) (sl x : Operand)
  (ho : o.op = .call { callee := .builtin .append, args := #[sl, x], argTypes := #[38, 9] }) (ht : o.type = 38) {B : Nat} {v : Value} {l : List UInt8} {s : ByteArray}
  (hs : a.eval sl = v) (hx : a.eval x = .string s) (hown : BRow B w v l) (hB : B <= w.heap.size) (hn : l.length + s.size <= 10000000000000)
  (h : ∀ v' w', BRow B w' v' (l ++ s.data.toList) -> w.grownBy w' v.ownBlock -> (∀ k, v'.ownBlock = some k -> v.ownBlock = some k \/ w.heap.size <= k) -> wpList Try.prog ops Q rest (a.put o.dst v') w') : wpList Try.prog ops Q (o :: rest) a w := by
 refine wpList_plain hgd fun _ hK => ?_
 obtain ⟨v', w', hr, h2, h3, h4⟩ := brow_appD hown hB s hn
 unfold Oper.wp execOp
 simp only [ho, ht, resolve, invoke, builtin, Sem.run_bind, Sem.run_pure, Result.andThen_ok, List.map_toArray, List.map_cons, List.map_nil, hs, hx, hr]
 exact hK _ _ (h v' w' h2 h3 h4)
theorem brow_sliceD {B : Nat} {w : World} {v : Value} {l : List UInt8} (h : BRow B w v l) : ∃ ao c, v = .slice ao l.length c := by
 rcases h.2 with ⟨hv, hn⟩ | ⟨g, cap, cur, hv, _⟩
 ·exact ⟨none, 0, by rw [hv, hn]⟩
 ·exact ⟨_, cap, hv⟩
theorem brow_belowD {B : Nat} {w w' : World} {v : Value} {l : List UInt8} (h : BRow B w v l) (hb : Below w.heap.size w w') : BRow B w' v l := own_belowD h hb
theorem brow_ltD {B : Nat} {w : World} {v : Value} {l : List UInt8} (h : BRow B w v l) {k : Nat} (hk : v.ownBlock = some k) : B <= k /\ k < w.heap.size := by
 rcases h.2 with ⟨rfl, _⟩ | ⟨g, cap, cur, rfl, hbg, hh, _⟩
 ·cases hk
 ·have : g = k := by injection hk
  subst this
  exact ⟨hbg, (Array.getElem?_eq_some_iff.1 hh).1⟩
theorem pvar_oneD (x : Nat) (hx : x < 18446744073709551616) (W : World) (g : Nat) (hg : W.heap.size = g) : Calls Try.prog 26 #[.slice (some ⟨g, 0, none⟩) 1 1] (W.alloc (.cells #[.int .u64 (x : Int)] 59)) fun e w' => e = .returned (.string (bs (varL x))) /\ Below W.heap.size W w' := by
 subst hg
 refine (Fr.var_any [x] _ _ (by simp) (fun z hz => ?_) (.inr ⟨W.heap.size, 0, 1, rfl, by simp, fun j hj => ?_⟩)).mono ?_
 ·rw [List.mem_singleton.1 hz]; exact hx
 ·obtain rfl : j = 0 := by simp at hj; omega
  rw [cell_atD (heap_newD ..)]; rfl
 ·rintro e w' ⟨rfl, hb⟩
  refine ⟨?_, ((Below.refl _ W).alloc (Nat.le_refl _) _).trans (hb.mono (by simp))⟩
  have : Fr.varsL [x] = varL x := by unfold Fr.varsL; simp
  rw [this]
theorem ptext_twoD (x y : ByteArray) (hx : x.size <= 1000000) (hy : y.size <= 1000000) (W : World) (g : Nat) (hg : W.heap.size = g) : Calls Try.prog 25 #[.slice (some ⟨g, 0, none⟩) 2 2] (W.alloc (.cells #[.string x, .string y] 9)) fun e w' => e = .returned (.string (bs (textL x.data.toList ++ textL y.data.toList))) /\ Below W.heap.size W w' := by
 subst hg
 refine (Fr.text_any [x, y] _ _ (by simp) (fun z hz => ?_) (.inr ⟨W.heap.size, 0, 2, rfl, by simp, fun j hj => ?_⟩)).mono ?_
 ·simp only [List.mem_cons, List.not_mem_nil, or_false] at hz
  rcases hz with rfl | rfl <;> assumption
 ·rw [Nat.zero_add, cell_atD (heap_newD ..)]
  match j, hj with
  | 0, _ => rfl
  | 1, _ => rfl
 ·rintro e w' ⟨rfl, hb⟩
  refine ⟨?_, ((Below.refl _ W).alloc (Nat.le_refl _) _).trans (hb.mono (by simp))⟩
  have : Fr.textsL [x, y] = textL x.data.toList ++ textL y.data.toList := by unfold Fr.textsL; simp
  rw [this]
theorem ptext_oneD (x : ByteArray) (hx : x.size <= 1000000) (W : World) (g : Nat) (hg : W.heap.size = g) : Calls Try.prog 25 #[.slice (some ⟨g, 0, none⟩) 1 1] (W.alloc (.cells #[.string x] 9)) fun e w' => e = .returned (.string (bs (textL x.data.toList))) /\ Below W.heap.size W w' := by
 subst hg
 refine (Fr.text_any [x] _ _ (by simp) (fun z hz => ?_) (.inr ⟨W.heap.size, 0, 1, rfl, by simp, fun j hj => ?_⟩)).mono ?_
 ·rw [List.mem_singleton.1 hz]; exact hx
 ·obtain rfl : j = 0 := by simp at hj; omega
  rw [cell_atD (heap_newD ..)]; rfl
 ·rintro e w' ⟨rfl, hb⟩
  refine ⟨?_, ((Below.refl _ W).alloc (Nat.le_refl _) _).trans (hb.mono (by simp))⟩
  have : Fr.textsL [x] = textL x.data.toList := by unfold Fr.textsL; simp
  rw [this]
end Go.Proofs.Ytjfclpicoamfaaa.Di
/- The program's packed: the bytes of a block of entries. -/
set_option maxRecDepth 100000
namespace Go.Proofs.Ytjfclpicoamfaaa.Di
open Go.RowKit
open Fr (varL textL bs BRow cellsB)
theorem step_browD {ops : Array Oper} {o : Oper} {a : Act} {w : World} {K : Act -> World -> Prop} {Q : Exit -> Act -> World -> Prop} {E : Prop} (hgd : o.guard = none) (sl x : Operand)
  (ho : o.op = .call { callee := .builtin .append, args := #[sl, x], argTypes := #[38, 9] }) (ht : o.type = 38) {B : Nat} {v : Value} {l : List UInt8} {s : ByteArray}
  (hs : a.eval sl = v) (hx : a.eval x = .string s) (hown : BRow B w v l) (hB : B <= w.heap.size) (hn : l.length + s.size <= 10000000000000)
  (h : ∀ v' w', BRow B w' v' (l ++ s.data.toList) -> w.grownBy w' v.ownBlock -> (∀ k, v'.ownBlock = some k -> v.ownBlock = some k \/ w.heap.size <= k) -> K (a.put o.dst v') w') :
  if Region.wanted o (yielded ops a.tmps) = true then Oper.wp Try.prog o a w K Q else E := by
 have hw : Region.wanted o (yielded ops a.tmps) = true := by simp [Region.wanted, hgd]
 rw [if_pos hw]
 obtain ⟨v', w', hr, h2, h3, h4⟩ := brow_appD hown hB s hn
 unfold Oper.wp execOp
 simp only [ho, ht, resolve, invoke, builtin, Sem.run_bind, Sem.run_pure, Result.andThen_ok, List.map_toArray, List.map_cons, List.map_nil, hs, hx, hr]
 exact h v' w' h2 h3 h4
set_option maxHeartbeats 8000000 in
theorem pdpacked_any (L : List En) (v : Value) (w : World) (h : SlD w v L) (hn : L.length <= 1000) (hs : Sml L) : Calls Try.prog 24 #[v] w fun e w' => (∃ v', e = .returned v' /\ BRow w.heap.size w' v' (blkL [] L)) /\ Below w.heap.size w w' := by
 obtain ⟨ao, c, rfl, _, hc⟩ := h
 have HC := Lib.hid hc
 have HSm := Lib.hid hs
 obtain ⟨n, hl⟩ : ∃ n, L.length = n := ⟨_, rfl⟩
 have HN := Lib.hid hl
 have HLen : Hid (∀ i, i <= n -> (blkL [] (L.take i)).length <= 1000100000) := fun i hi => by
  have := blk_len [] (L.take i) (fun x hx => hs x (List.mem_of_mem_take hx))
  rw [List.length_take] at this
  omega
 rw [hl] at hn ⊢
 clear hl hc hs
 go_enter Try.func24, Try.ntmps24
 go_wp2_with fail
 go_loopw [3, 4, 10] (fun bv av iv wr => ∃ (i : Nat) (b : List UInt8) (la : ByteArray), i <= n /\ iv = .int .i64 (i : Int) /\ av = .string la /\ b.length <= 1000100000 /\ Hid (la = lastT L i) /\ Hid (b = blkL [] (L.take i)) /\ Hid (BRow w.heap.size wr bv b) /\ Hid (Below w.heap.size w wr)) (fun _ _ iv _ => n - (intOf iv).toNat)
 case atStart => exact ⟨0, [], ⟨#[]⟩, Nat.zero_le _, rfl, rfl, Nat.zero_le _, rfl, rfl, BRow.nil _ _, Below.refl _ _⟩
 case round =>
  obtain ⟨i, b, la, hi, rfl, rfl, hbl, HLa, HT, HR, HB⟩ := hrel
  obtain ⟨bo, bc, rfl⟩ := brow_sliceD HR.out
  by_cases hlt : i < n
  ·have hiz : (i : Int) < (n : Int) := by omega
   have hiL : i < L.length := by rw [HN.out]; exact hlt
   obtain ⟨g, off, rfl, hg, c1, c2⟩ := HC.out i hiL
   have x1 := (HB.out.cell (p := ⟨g, _, none⟩) hg).trans c1
   have x2 := (HB.out.cell (p := ⟨g, _, none⟩) hg).trans c2
   have HBk := Lib.hid (blk_take hiL)
   obtain ⟨⟨o1, o2, o3⟩, o4⟩ := HSm.out L[i] (List.getElem_mem hiL)
   have hla4 : la.size <= 40 := by
    by_cases hp : i = 0
    ·rw [HLa.out, hp, last_zero]; exact Nat.zero_le _
    ·rw [HLa.out, last_pos hiL (by omega)]
     exact (HSm.out L[i - 1] (List.getElem_mem (by omega))).1.2.1
   have hlen2 := HLen.out (i + 1) (by omega)
   have HLs : Hid (lastT L (i + 1) = L[i].t) := last_succ hiL
   have HPv : Hid (prevT L i = la.data.toList) := by show _ = _; rw [HLa.out, last_prev]
   obtain ⟨xt, hxt⟩ : ∃ xt, L[i].t = xt := ⟨_, rfl⟩
   obtain ⟨xv, hxv⟩ : ∃ xv, L[i].v = xv := ⟨_, rfl⟩
   have hBk2 : blkL [] (L.take (i + 1)) = b ++ (varL (alike la.data.toList xt.data.toList) ++ (textL (xt.data.toList.drop (alike la.data.toList xt.data.toList)) ++ textL xv.data.toList)) := by
    rw [HBk.out, HT.out, entL, HPv.out, hxt, hxv]
   rw [hxt] at x1 o1 o2 HLs
   rw [hxv] at x2 o3 o4
   clear c1 c2 hg hxt hxv HBk HPv
   obtain ⟨k, hk⟩ : ∃ k, alike la.data.toList xt.data.toList = k := ⟨_, rfl⟩
   have hkx : k <= xt.size := by rw [<- hk, <- str_len xt]; exact (alike_le _ _).2
   have CA := Lib.hid (fun W => pdalike_any la xt W (by omega) (by omega))
   rw [hk] at CA hBk2
   clear hk
   have CV := Lib.hid (fun W g (hg : W.heap.size = g) => pvar_oneD k (by omega) W g hg)
   have hes : (xt.extract k xt.size).size <= 1000000 := by
    rw [Fr.ext_drop, Fr.bs_size, List.length_drop, str_len]; omega
   have CT := Lib.hid (fun W g (hg : W.heap.size = g) => ptext_twoD (xt.extract k xt.size) xv hes o4 W g hg)
   have z1 : (bs (varL k)).size <= 10 := by rw [Fr.bs_size]; exact varL_le _ (by omega)
   have z2 : (bs (textL (xt.extract k xt.size).data.toList ++ textL xv.data.toList)).size <= 2000100 := by
    rw [Fr.bs_size, List.length_append]
    have q1 := textL_len (xt.extract k xt.size).data.toList (by rw [str_len]; omega)
    have q2 := textL_len xv.data.toList (by rw [str_len]; omega)
    rw [str_len] at q1 q2
    omega
   have HBk3 : Hid (b ++ (bs (varL k)).data.toList ++ (bs (textL (xt.extract k xt.size).data.toList ++ textL xv.data.toList)).data.toList = blkL [] (L.take (i + 1))) := by
    show _ = _
    rw [hBk2, bs_list, bs_list, Fr.ext_drop, bs_list, List.append_assoc]
   generalize bs (varL k) = NB at *
   generalize bs (textL (xt.extract k xt.size).data.toList ++ textL xv.data.toList) = TB at *
   clear hBk2
   obtain ⟨X, hX⟩ : ∃ X, wr.heap.size = X := ⟨_, rfl⟩
   obtain ⟨W0, hW0⟩ : ∃ W0, wr.alloc (.cells #[.string xt, .string xv] 43) = W0 := ⟨_, rfl⟩
   have HW0 := Lib.hid hW0
   have hbx : Below wr.heap.size wr W0 := by rw [<- hW0]; exact (Below.refl _ wr).alloc (Nat.le_refl _) _
   have HX0 : Hid (W0.heap[X]? = some (.cells #[.string xt, .string xv] 43 (0, 0))) := by show _ = _; rw [<- hW0, <- hX]; exact heap_newD _ _
   have HB0 : Hid (Below w.heap.size w W0) := HB.out.trans (hbx.mono HB.out.size)
   have HR0 := Lib.hid (brow_belowD HR.out hbx)
   have HNo : Hid (∀ j, (Value.slice bo b.length bc).ownBlock = some j -> j < X) := fun j hj => by have := (brow_ltD HR.out hj).2; omega
   have y0 : (wr.alloc (.cells #[.string xt, .string xv] 43)).cell? ⟨X, 0, none⟩ = some (.string xt) := by rw [hW0]; exact cell_atD HX0.out 0
   have hbz := HB.out.size
   clear hbx hW0 HR HB
   go_wp2_with fail
   rw [HW0.out]
   refine (CA.out _).mono ?_
   rintro e w1 ⟨rfl, hb1⟩
   have HB1 := Lib.hid (HB0.out.trans (hb1.mono HB0.out.size))
   have HX1 := Lib.hid (keepD HX0.out hb1)
   have HR1 := Lib.hid (brow_belowD HR0.out hb1)
   clear hb1 y0 x1 x2
   obtain ⟨G1, hG1⟩ : ∃ G1, w1.heap.size = G1 := ⟨_, rfl⟩
   have HG1 := Lib.hid hG1
   have hwk : IntKind.u64.wrap (k : Int) = (k : Int) := by rw [IntKind.wrap_u64]; omega
   go_wp2_with fail
   refine (CV.out _ _ HG1.out).mono ?_
   rintro e w2 ⟨rfl, hb2⟩
   have HB2 := Lib.hid (HB1.out.trans (hb2.mono HB1.out.size))
   have HX2 := Lib.hid (keepD HX1.out hb2)
   have HR2 := Lib.hid (brow_belowD HR1.out hb2)
   have HZ2 : Hid (w.heap.size <= w2.heap.size) := HB2.out.size
   clear hb2
   go_wp2_with (at_builtin; go_loud (refine wpList_brow_appD rfl _ _ rfl rfl rfl rfl HR2.out HZ2.out ?c1 ?_))
   case c1 => omega
   intro v3 w3 hr3 hg3 hw3
   have HR3 := Lib.hid hr3
   have HB3 : Hid (Below w.heap.size w w3) := HB2.out.grown hg3 HB2.out.size fun j hj => (brow_ltD HR2.out hj).1
   have HX3 : Hid (w3.heap[X]? = some (.cells #[.string xt, .string xv] 43 (0, 0))) :=
    (hg3.block X (ltD HX2.out) fun e => by have := HNo.out X e.symm; omega).trans HX2.out
   have HNo3 : Hid (∀ j, v3.ownBlock = some j -> j ≠ X) := fun j hj => by
    rcases hw3 j hj with h | h
    ·have := HNo.out j h; omega
    ·have := ltD HX2.out; omega
   have y0 := cell_atD HX3.out 0
   have y1 := cell_atD HX3.out 1
   have hk0 : (0 : Int) <= (k : Int) := by omega
   have hk1 : (k : Int).toNat = k := rfl
   have hk2 : (k : Int) <= (xt.size : Int) := by omega
   clear hr3 hg3 hw3
   obtain ⟨G3, hG3⟩ : ∃ G3, w3.heap.size = G3 := ⟨_, rfl⟩
   have HG3 := Lib.hid hG3
   obtain ⟨b3, hb3⟩ : ∃ b3, b ++ NB.data.toList = b3 := ⟨_, rfl⟩
   have hb3l : b3.length <= 1000100010 := by rw [<- hb3, List.length_append, str_len]; omega
   rw [hb3] at HR3 HBk3
   obtain ⟨ro, rc, rfl⟩ := brow_sliceD HR3.out
   clear hb3
   go_wp2_with fail
   have HG3d : Hid (w3.drew.heap.size = G3) := HG3.out
   have CT2 := Lib.hid (show Calls Try.prog 25 #[.slice (some ⟨G3, 0, none⟩) 2 2] (w3.alloc (.cells #[.string (xt.extract k xt.size), .string xv] 9)).drew (fun e w' => e = .returned (.string TB) /\ Below w3.drew.heap.size w3.drew w') from CT.out w3.drew G3 HG3d.out)
   go_region_law (first
    | (go_simp; go_at_call 25; refine CT2.out.mono ?_; rintro e w4 ⟨rfl, hb4⟩
       have HB4 : Hid (Below w.heap.size w w4) := HB3.out.drew.trans (hb4.mono HB3.out.size)
       have HX4 : Hid (w4.heap[X]? = some (.cells #[.string xt, .string xv] 43 (0, 0))) := (hb4.block X (ltD HX3.out)).trans HX3.out
       have HR4 : Hid (BRow w.heap.size w4 (.slice ro b3.length rc) b3) := brow_belowD HR3.out (Fr.below_predrew hb4)
       have HZ4 : Hid (w.heap.size <= w4.heap.size) := HB4.out.size
       clear hb4)
    | (refine step_browD (v := .slice ro b3.length rc) (l := b3) (s := TB) rfl (.tmp 24) (.tmp 32) rfl rfl (by kernel_rfl) (by kernel_rfl) HR4.out HZ4.out ?c1 ?_
       case c1 => omega
       intro v5 w5 hr5 hg5 hw5
       have HR5 : Hid (BRow w.heap.size w5 v5 (blkL [] (L.take (i + 1)))) := by show BRow _ _ _ _; rw [<- HBk3.out]; exact hr5
       have HB5 : Hid (Below w.heap.size w w5) := HB4.out.grown hg5 HB4.out.size fun j hj => (brow_ltD HR4.out hj).1
       have HX5 : Hid (w5.heap[X]? = some (.cells #[.string xt, .string xv] 43 (0, 0))) :=
        (hg5.block X (ltD HX4.out) fun e => HNo3.out X e.symm rfl).trans HX4.out
       clear hr5 hg5 hw5))
   all_goals
    have q0 := cell_atD HX5.out 0
    clear y0 y1
    go_wp2_with fail
    go_roundw
    case rel => exact ⟨i + 1, blkL [] (L.take (i + 1)), xt, by omega, by go_num, rfl, hlen2, HLs.out.symm, rfl, HR5.out, HB5.out⟩
    case measure => simp [intOf]; omega
  ·obtain rfl : i = n := by omega
   have hiz : ¬ (i : Int) < (i : Int) := by omega
   have HE : Hid (BRow w.heap.size wr (.slice bo b.length bc) (blkL [] L)) := by
    have h1 := HT.out
    rw [List.take_of_length_le (by rw [HN.out]; exact Nat.le_refl _)] at h1
    show BRow _ _ _ _
    rw [<- h1]; exact HR.out
   go_wp2_with fail
   go_ret
   exact ⟨⟨_, rfl, HE.out⟩, HB.out⟩
end Go.Proofs.Ytjfclpicoamfaaa.Di
/- readEntry of the program. -/
set_option maxRecDepth 100000
namespace Go.Proofs.Ytjfclpicoamfaaa.Di
open Go.RowKit
open Fr (rdV rdT bs)
set_option maxHeartbeats 4000000 in
theorem pdentry_gen (s A R1 T R2 V R3 : ByteArray) (k : Nat) (b1 b2 b3 : Bool) (w : World) (hA : A.size <= 9000000000000000000) (hT : T.size <= 100000000000000) (hk : k < 18446744073709551616)
  (C1 : ∀ W, Calls Try.prog 46 #[.string s] W fun e w' => e = .returned (.tuple #[.int .u64 (k : Int), .string R1, .bool b1]) /\ Below W.heap.size W w')
  (C2 : ∀ W, Calls Try.prog 49 #[.string R1] W fun e w' => e = .returned (.tuple #[.string T, .string R2, .bool b2]) /\ Below W.heap.size W w')
  (C3 : ∀ W, Calls Try.prog 49 #[.string R2] W fun e w' => e = .returned (.tuple #[.string V, .string R3, .bool b3]) /\ Below W.heap.size W w') :
  Calls Try.prog 41 #[.string s, .string A] w fun e w' => e = .returned (if b3 = true /\ k <= A.size then .agg #[.string (A.extract 0 k ++ T), .string V, .string R3, .bool true] else .agg #[.string ⟨#[]⟩, .string ⟨#[]⟩, .string ⟨#[]⟩, .bool false]) /\ Below w.heap.size w w' := by
 have C1 := Lib.hid C1
 have C2 := Lib.hid C2
 have C3 := Lib.hid C3
 have KS := Lib.hid takenS_any
 have KU := Lib.hid takenU_any
 obtain ⟨Z, hZ⟩ : ∃ Z, w.heap.size = Z := ⟨_, rfl⟩
 have HZ := Lib.hid hZ
 obtain ⟨W0, hW0⟩ : ∃ W0, w.alloc (.cells #[.string ⟨#[]⟩, .string ⟨#[]⟩, .string ⟨#[]⟩, .bool false] 81) = W0 := ⟨_, rfl⟩
 have HW0 := Lib.hid hW0
 have HB0 : Hid (Below w.heap.size w W0) := by show Below _ _ _; rw [<- hW0]; exact (Below.refl _ w).alloc (Nat.le_refl _) _
 have HZ0 : Hid (W0.heap[Z]? = some (.cells #[.string ⟨#[]⟩, .string ⟨#[]⟩, .string ⟨#[]⟩, .bool false] 81 (0, 0))) := by show _ = _; rw [<- hW0, <- hZ]; exact heap_newD _ _
 clear hW0
 obtain ⟨res, hres⟩ : ∃ res, (if b3 = true /\ k <= A.size then Value.agg #[.string (A.extract 0 k ++ T), .string V, .string R3, .bool true] else .agg #[.string ⟨#[]⟩, .string ⟨#[]⟩, .string ⟨#[]⟩, .bool false]) = res := ⟨_, rfl⟩
 rw [hres]
 have HRes := Lib.hid hres
 clear hres
 go_enter Try.func41, Try.ntmps41
 go_wp2_with fail
 rw [HW0.out]
 refine (C1.out _).mono ?_
 rintro e w1 ⟨rfl, hb1⟩
 have HB1 := Lib.hid (HB0.out.trans (hb1.mono HB0.out.size))
 have HZ1 := Lib.hid (keepD HZ0.out hb1)
 clear hb1
 go_wp2_with fail
 refine (KU.out _ _ _ _).mono ?_
 rintro e w2 ⟨rfl, hb2⟩
 have HB2 := Lib.hid (HB1.out.trans (hb2.mono HB1.out.size))
 have HZ2 := Lib.hid (keepD HZ1.out hb2)
 clear hb2
 obtain ⟨P, hP⟩ : ∃ P, w2.heap.size = P := ⟨_, rfl⟩
 obtain ⟨W3, hW3⟩ : ∃ W3, w2.alloc (.cells #[.int .u64 (k : Int), .string R1, .bool b1] 85) = W3 := ⟨_, rfl⟩
 have HW3 := Lib.hid hW3
 have hbx : Below w2.heap.size w2 W3 := by rw [<- hW3]; exact (Below.refl _ w2).alloc (Nat.le_refl _) _
 have HB3 : Hid (Below w.heap.size w W3) := HB2.out.trans (hbx.mono HB2.out.size)
 have HP3 : Hid (W3.heap[P]? = some (.cells #[.int .u64 (k : Int), .string R1, .bool b1] 85 (0, 0))) := by show _ = _; rw [<- hW3, <- hP]; exact heap_newD _ _
 have HZ3 := Lib.hid (keepD HZ2.out hbx)
 have c1 : W3.cell? ⟨P, 1, none⟩ = some (.string R1) := cell_atD HP3.out 1
 clear hbx hW3
 go_wp2_with fail
 rw [HW3.out]
 go_wp2_with fail
 refine (C2.out _).mono ?_
 rintro e w4 ⟨rfl, hb4⟩
 have HB4 := Lib.hid (HB3.out.trans (hb4.mono HB3.out.size))
 have HZ4 := Lib.hid (keepD HZ3.out hb4)
 have HP4 := Lib.hid (keepD HP3.out hb4)
 clear hb4 c1
 go_wp2_with fail
 refine (KS.out _ _ _ _).mono ?_
 rintro e w5 ⟨rfl, hb5⟩
 have HB5 := Lib.hid (HB4.out.trans (hb5.mono HB4.out.size))
 have HZ5 := Lib.hid (keepD HZ4.out hb5)
 have HP5 := Lib.hid (keepD HP4.out hb5)
 clear hb5
 obtain ⟨Y, hY⟩ : ∃ Y, w5.heap.size = Y := ⟨_, rfl⟩
 obtain ⟨W6, hW6⟩ : ∃ W6, w5.alloc (.cells #[.string T, .string R2, .bool b2] 93) = W6 := ⟨_, rfl⟩
 have HW6 := Lib.hid hW6
 have hbx : Below w5.heap.size w5 W6 := by rw [<- hW6]; exact (Below.refl _ w5).alloc (Nat.le_refl _) _
 have HB6 : Hid (Below w.heap.size w W6) := HB5.out.trans (hbx.mono HB5.out.size)
 have HY6 : Hid (W6.heap[Y]? = some (.cells #[.string T, .string R2, .bool b2] 93 (0, 0))) := by show _ = _; rw [<- hW6, <- hY]; exact heap_newD _ _
 have HZ6 := Lib.hid (keepD HZ5.out hbx)
 have HP6 := Lib.hid (keepD HP5.out hbx)
 have c1 : W6.cell? ⟨Y, 1, none⟩ = some (.string R2) := cell_atD HY6.out 1
 clear hbx hW6
 go_wp2_with fail
 rw [HW6.out]
 go_wp2_with fail
 refine (C3.out _).mono ?_
 rintro e w7 ⟨rfl, hb7⟩
 have HB7 := Lib.hid (HB6.out.trans (hb7.mono HB6.out.size))
 have HZ7 := Lib.hid (keepD HZ6.out hb7)
 have HP7 := Lib.hid (keepD HP6.out hb7)
 have HY7 := Lib.hid (keepD HY6.out hb7)
 clear hb7 c1
 go_wp2_with fail
 refine (KS.out _ _ _ _).mono ?_
 rintro e w8 ⟨rfl, hb8⟩
 have HB8 := Lib.hid (HB7.out.trans (hb8.mono HB7.out.size))
 have HZ8 := Lib.hid (keepD HZ7.out hb8)
 have HP8 := Lib.hid (keepD HP7.out hb8)
 have HY8 := Lib.hid (keepD HY7.out hb8)
 clear hb8
 obtain ⟨U, hU⟩ : ∃ U, w8.heap.size = U := ⟨_, rfl⟩
 obtain ⟨W9, hW9⟩ : ∃ W9, w8.alloc (.cells #[.string V, .string R3, .bool b3] 93) = W9 := ⟨_, rfl⟩
 have HW9 := Lib.hid hW9
 have hbx : Below w8.heap.size w8 W9 := by rw [<- hW9]; exact (Below.refl _ w8).alloc (Nat.le_refl _) _
 have HB9 : Hid (Below w.heap.size w W9) := HB8.out.trans (hbx.mono HB8.out.size)
 have HU9 : Hid (W9.heap[U]? = some (.cells #[.string V, .string R3, .bool b3] 93 (0, 0))) := by show _ = _; rw [<- hW9, <- hU]; exact heap_newD _ _
 have HZ9 := Lib.hid (keepD HZ8.out hbx)
 have HP9 := Lib.hid (keepD HP8.out hbx)
 have HY9 := Lib.hid (keepD HY8.out hbx)
 have p0 : (w8.alloc (.cells #[.string V, .string R3, .bool b3] 93)).cell? ⟨P, 0, none⟩ = some (.int .u64 (k : Int)) := by rw [hW9]; exact cell_atD HP9.out 0
 have y0 : (w8.alloc (.cells #[.string V, .string R3, .bool b3] 93)).cell? ⟨Y, 0, none⟩ = some (.string T) := by rw [hW9]; exact cell_atD HY9.out 0
 have u0 : (w8.alloc (.cells #[.string V, .string R3, .bool b3] 93)).cell? ⟨U, 0, none⟩ = some (.string V) := by rw [hW9]; exact cell_atD HU9.out 0
 have u1 : (w8.alloc (.cells #[.string V, .string R3, .bool b3] 93)).cell? ⟨U, 1, none⟩ = some (.string R3) := by rw [hW9]; exact cell_atD HU9.out 1
 have u2 : (w8.alloc (.cells #[.string V, .string R3, .bool b3] 93)).cell? ⟨U, 2, none⟩ = some (.bool b3) := by rw [hW9]; exact cell_atD HU9.out 2
 have z0 : (w8.alloc (.cells #[.string V, .string R3, .bool b3] 93)).cell? ⟨Z, 0, none⟩ = some (.string ⟨#[]⟩) := by rw [hW9]; exact cell_atD HZ9.out 0
 have f0 : (w8.alloc (.cells #[.string V, .string R3, .bool b3] 93)).frozen? ⟨Z, 0, none⟩ = false := by rw [hW9]; exact free_at HZ9.out 0
 have z1 : (w8.alloc (.cells #[.string V, .string R3, .bool b3] 93)).cell? ⟨Z, 1, none⟩ = some (.string ⟨#[]⟩) := by rw [hW9]; exact cell_atD HZ9.out 1
 have f1 : (w8.alloc (.cells #[.string V, .string R3, .bool b3] 93)).frozen? ⟨Z, 1, none⟩ = false := by rw [hW9]; exact free_at HZ9.out 1
 have z2 : (w8.alloc (.cells #[.string V, .string R3, .bool b3] 93)).cell? ⟨Z, 2, none⟩ = some (.string ⟨#[]⟩) := by rw [hW9]; exact cell_atD HZ9.out 2
 have f2 : (w8.alloc (.cells #[.string V, .string R3, .bool b3] 93)).frozen? ⟨Z, 2, none⟩ = false := by rw [hW9]; exact free_at HZ9.out 2
 have z3 : (w8.alloc (.cells #[.string V, .string R3, .bool b3] 93)).cell? ⟨Z, 3, none⟩ = some (.bool false) := by rw [hW9]; exact cell_atD HZ9.out 3
 have f3 : (w8.alloc (.cells #[.string V, .string R3, .bool b3] 93)).frozen? ⟨Z, 3, none⟩ = false := by rw [hW9]; exact free_at HZ9.out 3
 have HF : Hid (∀ a b c d : Value, Below w.heap.size w (((((w8.alloc (.cells #[.string V, .string R3, .bool b3] 93)).setCell ⟨Z, 0, none⟩ a).setCell ⟨Z, 1, none⟩ b).setCell ⟨Z, 2, none⟩ c).setCell ⟨Z, 3, none⟩ d) /\ (((((w8.alloc (.cells #[.string V, .string R3, .bool b3] 93)).setCell ⟨Z, 0, none⟩ a).setCell ⟨Z, 1, none⟩ b).setCell ⟨Z, 2, none⟩ c).setCell ⟨Z, 3, none⟩ d).heap[Z]? = some (.cells #[a, b, c, d] 81 (0, 0))) := fun a b c d => by
  rw [hW9]
  exact ⟨set4_below HB9.out (by rw [HZ.out]; exact Nat.le_refl _) _ _ _ _, set4_heap HZ9.out _ _ _ _⟩
 clear hbx hW9
 have ew : IntKind.u64.wrap (A.size : Int) = (A.size : Int) := by rw [IntKind.wrap_u64]; omega
 by_cases hyes : b3 = true /\ k <= A.size
 ·have HE := Lib.hid (HRes.out.symm.trans (if_pos hyes))
  obtain ⟨rfl, hka⟩ := hyes
  have g1 : decide ((A.size : Int) < (k : Int)) = false := decide_eq_false (by omega)
  have hks : (k : Int) <= (A.size : Int) := by omega
  have hk0 : (0 : Int) <= (k : Int) := by omega
  have hkn : (k : Int).toNat = k := rfl
  clear HRes
  go_wp2_with fail
  clear HF
  have HW := HW9.out
  clear HW9
  rw [HW] at p0 y0 u0 u1 u2 z0 z1 z2 z3 f0 f1 f2 f3 ⊢
  clear HW
  generalize W9 = W at *
  have hez : (A.extract 0 k).size <= A.size := by rw [ByteArray.size_extract]; omega
  have a1 : ¬ 9223372036854775807 < (A.extract 0 k).size + T.size := by omega
  have hmn : min k A.size = k := by omega
  have hezk : (A.extract 0 k).size = k := by rw [ByteArray.size_extract]; omega
  have a2 : ¬ 9223372036854775807 < k + T.size := by omega
  have a3 : ¬ 9223372036854775807 < min k A.size + T.size := by omega
  go_still_tail 13, (by kernel_rfl)
  change wpList _ _ _ _ _ W.drew
  have z0' : W.drew.cell? ⟨Z, 0, none⟩ = some (.string ⟨#[]⟩) := z0
  have z1' : W.drew.cell? ⟨Z, 1, none⟩ = some (.string ⟨#[]⟩) := z1
  have z2' : W.drew.cell? ⟨Z, 2, none⟩ = some (.string ⟨#[]⟩) := z2
  have z3' : W.drew.cell? ⟨Z, 3, none⟩ = some (.bool false) := z3
  have f0' : W.drew.frozen? ⟨Z, 0, none⟩ = false := f0
  have f1' : W.drew.frozen? ⟨Z, 1, none⟩ = false := f1
  have f2' : W.drew.frozen? ⟨Z, 2, none⟩ = false := f2
  have f3' : W.drew.frozen? ⟨Z, 3, none⟩ = false := f3
  have HBd : Hid (Below w.heap.size w W.drew) := HB9.out.drew
  have HZd : Hid (W.drew.heap[Z]? = some (.cells #[.string ⟨#[]⟩, .string ⟨#[]⟩, .string ⟨#[]⟩, .bool false] 81 (0, 0))) := HZ9.out
  generalize W.drew = W2 at *
  go_wp2_with fail
  exact bodyPost_ret (results_cell_row rfl _ _ Z 81 _ _ _ rfl (set4_heap HZd.out _ _ _ _) Try.underlying81 rfl (by kernel_rfl)) rfl ⟨by rw [HE.out], set4_below HBd.out (by rw [HZ.out]; exact Nat.le_refl _) _ _ _ _⟩
 ·have HE := Lib.hid (HRes.out.symm.trans (if_neg hyes))
  clear HRes
  cases b3 with
  | false =>
   clear hyes
   go_wp2_with fail
   obtain ⟨q1, q2⟩ := HF.out (.string ⟨#[]⟩) (.string ⟨#[]⟩) (.string ⟨#[]⟩) (.bool false)
   exact bodyPost_ret (results_cell_row rfl _ _ Z 81 _ _ _ rfl q2 Try.underlying81 rfl (by kernel_rfl)) rfl ⟨by rw [HE.out], q1⟩
  | true =>
   have hka : ¬ k <= A.size := fun h => hyes ⟨rfl, h⟩
   have g1 : decide ((A.size : Int) < (k : Int)) = true := decide_eq_true (by omega)
   have g2 : A.size < k := by omega
   have g3 : decide (A.size < k) = true := decide_eq_true g2
   clear hyes
   go_wp2_with fail
   obtain ⟨q1, q2⟩ := HF.out (.string ⟨#[]⟩) (.string ⟨#[]⟩) (.string ⟨#[]⟩) (.bool false)
   exact bodyPost_ret (results_cell_row rfl _ _ Z 81 _ _ _ rfl q2 Try.underlying81 rfl (by kernel_rfl)) rfl ⟨by rw [HE.out], q1⟩
end Go.Proofs.Ytjfclpicoamfaaa.Di
/- The program's seek: where a term would stand. -/
set_option maxRecDepth 100000
namespace Go.Proofs.Ytjfclpicoamfaaa.Di
open Go.RowKit
open Fr (rdV rdT bs)
theorem pdmark_yes {l x r q : List UInt8} {v : Nat} (w : World) (hl : l.length <= 2000000000) (h1 : rdT l = some (x, r)) (h2 : rdV r = some (v, q)) :
  Calls Try.prog 47 #[.string (bs l)] w fun e w' => e = .returned (.agg #[.string (bs x), .int .u64 (v : Int), .string (bs q), .bool true]) /\ Below w.heap.size w w' := by
 have hr := rdT_len h1
 have e1 := Fr.bs_size l
 have e2 := Fr.bs_size r
 exact pdmark_gen _ _ _ _ _ _ _ w (fun W => Fr.toText_yes W (by unfold maxLen; omega) (by rw [bs_list]; exact h1)) (fun W => Fr.toVar_yes W (by unfold maxLen; omega) (by rw [bs_list]; exact h2))
theorem pdmark_no {l : List UInt8} (w : World) (hl : l.length <= 2000000000) (h : (rdT l).bind (fun x => rdV x.2) = none) :
  Calls Try.prog 47 #[.string (bs l)] w fun e w' => (∃ X v Q, e = .returned (.agg #[.string X, .int .u64 v, .string Q, .bool false])) /\ Below w.heap.size w w' := by
 have e1 := Fr.bs_size l
 cases h1 : rdT l with
 | none =>
  exact (pdmark_gen _ _ _ _ _ _ _ w (fun W => Fr.toText_no W (by unfold maxLen; omega) (by rw [bs_list]; exact h1)) (fun W => Fr.toVar_no W (Nat.zero_le _) rfl)).mono fun e w' hh => ⟨⟨_, _, _, hh.1⟩, hh.2⟩
 | some a =>
  obtain ⟨x, r⟩ := a
  rw [h1, Option.bind_some] at h
  have hr := rdT_len h1
  have e2 := Fr.bs_size r
  exact (pdmark_gen _ _ _ _ _ _ _ w (fun W => Fr.toText_yes W (by unfold maxLen; omega) (by rw [bs_list]; exact h1)) (fun W => Fr.toVar_no W (by unfold maxLen; omega) (by rw [bs_list]; exact h))).mono fun e w' hh => ⟨⟨_, _, _, hh.1⟩, hh.2⟩
def entV (o : Option (En × List UInt8)) : Value := match o with
 | some (x, r) => .agg #[.string x.t, .string x.v, .string (bs r), .bool true]
 | none => .agg #[.string ⟨#[]⟩, .string ⟨#[]⟩, .string ⟨#[]⟩, .bool false]
theorem pdentry_any (l : List UInt8) (A : ByteArray) (w : World) (hl : l.length <= 2000000000) (hA : A.size <= 9000000000000000000) :
  Calls Try.prog 41 #[.string (bs l), .string A] w fun e w' => e = .returned (entV (dEnt A.data.toList l)) /\ Below w.heap.size w w' := by
 have e1 := Fr.bs_size l
 have hm : (2000000000 : Nat) <= maxLen := by unfold maxLen; omega
 cases h1 : rdV l with
 | none =>
  rw [dEnt_no1 h1]
  exact (pdentry_gen _ A _ _ _ _ _ 0 _ _ _ w hA (Nat.zero_le _) (by omega) (fun W => Fr.toVar_no W (by omega) (by rw [bs_list]; exact h1)) (fun W => Fr.toText_no W (Nat.zero_le _) rfl) (fun W => Fr.toText_no W (Nat.zero_le _) rfl)).mono fun e w' hh => ⟨by rw [hh.1, if_neg (by simp)]; rfl, hh.2⟩
 | some a =>
  obtain ⟨k, q⟩ := a
  have g1 := rdV_lt h1
  have e2 := Fr.bs_size q
  have hk := (Fr.rdV_some h1).2.1
  have C1 := fun W => Fr.toVar_yes (s := bs l) W (by omega) (by rw [bs_list]; exact h1)
  cases h2 : rdT q with
  | none =>
   have hz : dEnt A.data.toList l = none := by
    unfold dEnt; rw [h1, Option.bind_some]; dsimp only; rw [h2]; split <;> rfl
   rw [hz]
   exact (pdentry_gen _ A _ _ _ _ _ k _ _ _ w hA (Nat.zero_le _) hk C1 (fun W => Fr.toText_no W (by omega) (by rw [bs_list]; exact h2)) (fun W => Fr.toText_no W (Nat.zero_le _) rfl)).mono fun e w' hh => ⟨by rw [hh.1, if_neg (by simp)]; rfl, hh.2⟩
  | some a =>
   obtain ⟨t, q2⟩ := a
   have g2 := rdT_len h2
   have e3 := Fr.bs_size q2
   have e4 := Fr.bs_size t
   have C2 := fun W => Fr.toText_yes (s := bs q) W (by omega) (by rw [bs_list]; exact h2)
   cases h3 : rdT q2 with
   | none =>
    have hz : dEnt A.data.toList l = none := by
     unfold dEnt; rw [h1, Option.bind_some]; dsimp only; rw [h2, Option.bind_some]; dsimp only; rw [h3]; split <;> rfl
    rw [hz]
    exact (pdentry_gen _ A _ _ _ _ _ k _ _ _ w hA (by omega) hk C1 C2 (fun W => Fr.toText_no W (by omega) (by rw [bs_list]; exact h3))).mono fun e w' hh => ⟨by rw [hh.1, if_neg (by simp)]; rfl, hh.2⟩
   | some a =>
    obtain ⟨v, q3⟩ := a
    have C3 := fun W => Fr.toText_yes (s := bs q2) W (by omega) (by rw [bs_list]; exact h3)
    refine (pdentry_gen _ A _ _ _ _ _ k _ _ _ w hA (by omega) hk C1 C2 C3).mono fun e w' hh => ⟨?_, hh.2⟩
    rw [hh.1]
    by_cases hka : k <= A.size
    ·rw [if_pos ⟨rfl, hka⟩, dEnt_yes h1 (by rw [str_len]; exact hka) h2 h3, ext_take, bs_app]
     rfl
    ·rw [if_neg fun h => hka h.2, dEnt_no2 h1 (by rw [str_len]; exact hka)]
     rfl
def seekV (o : Option (Nat × List UInt8)) : Value := match o with
 | some (n, r) => .agg #[.int .i64 (n : Int), .string (bs r), .bool true]
 | none => .agg #[.int .i64 0, .string ⟨#[]⟩, .bool false]
set_option maxHeartbeats 8000000 in
theorem pdseek_any (l : List UInt8) (t : ByteArray) (w : World) (hl : l.length <= 2000000000) :
  Calls Try.prog 40 #[.string (bs l), .string t] w fun e w' => e = .returned (seekV (seekD t l)) /\ Below w.heap.size w w' := by
 obtain ⟨res, hres⟩ : ∃ res, seekV (seekD t l) = res := ⟨_, rfl⟩
 rw [hres]
 have HRes := Lib.hid hres
 clear hres
 obtain ⟨Z, hZ⟩ : ∃ Z, w.heap.size = Z := ⟨_, rfl⟩
 have HZe := Lib.hid hZ
 obtain ⟨W0, hW0⟩ : ∃ W0, w.alloc (.cells #[.int .i64 0, .string ⟨#[]⟩, .bool false] 78) = W0 := ⟨_, rfl⟩
 have HW0 := Lib.hid hW0
 have HB0 : Hid (Below w.heap.size w W0) := by show Below _ _ _; rw [<- hW0]; exact (Below.refl _ w).alloc (Nat.le_refl _) _
 have HZ0 : Hid (W0.heap[Z]? = some (.cells #[.int .i64 0, .string ⟨#[]⟩, .bool false] 78 (0, 0))) := by show _ = _; rw [<- hW0, <- hZ]; exact heap_newD _ _
 have KU := Lib.hid takenU_any
 have e1 := Fr.bs_size l
 have hm : (2000000000 : Nat) <= maxLen := by unfold maxLen; omega
 clear hW0
 have CV : ∃ (c : Nat) (R : ByteArray) (b : Bool), c < 18446744073709551616 /\ (∀ W, Calls Try.prog 46 #[.string (bs l)] W fun e w' => e = .returned (.tuple #[.int .u64 (c : Int), .string R, .bool b]) /\ Below W.heap.size W w') /\
   Hid ((b = true /\ rdV l = some (c, R.data.toList) /\ R.size <= 2000000000) \/ (b = false /\ rdV l = none)) := by
  cases h1 : rdV l with
  | none => exact ⟨0, ⟨#[]⟩, false, by omega, fun W => Fr.toVar_no W (by omega) (by rw [bs_list]; exact h1), .inr ⟨rfl, rfl⟩⟩
  | some a =>
   obtain ⟨c, r⟩ := a
   exact ⟨c, bs r, true, (Fr.rdV_some h1).2.1, fun W => Fr.toVar_yes W (by omega) (by rw [bs_list]; exact h1), .inl ⟨rfl, by rw [bs_list], by rw [Fr.bs_size]; have := rdV_lt h1; omega⟩⟩
 obtain ⟨c, R, b, hcz, CV, HC⟩ := CV
 have CV := Lib.hid CV
 generalize bs l = s at *
 go_enter Try.func40, Try.ntmps40
 go_wp2_with fail
 rw [HW0.out]
 refine (CV.out _).mono ?_
 rintro e w1 ⟨rfl, hb1⟩
 have HB1 := Lib.hid (HB0.out.trans (hb1.mono HB0.out.size))
 have HZ1 := Lib.hid (keepD HZ0.out hb1)
 clear hb1
 go_wp2_with fail
 refine (KU.out _ _ _ _).mono ?_
 rintro e w2 ⟨rfl, hb2⟩
 have HB2 := Lib.hid (HB1.out.trans (hb2.mono HB1.out.size))
 have HZ2 := Lib.hid (keepD HZ1.out hb2)
 clear hb2
 obtain ⟨P, hP⟩ : ∃ P, w2.heap.size = P := ⟨_, rfl⟩
 obtain ⟨W3, hW3⟩ : ∃ W3, w2.alloc (.cells #[.int .u64 (c : Int), .string R, .bool b] 85) = W3 := ⟨_, rfl⟩
 have HW3 := Lib.hid hW3
 have hbx : Below w2.heap.size w2 W3 := by rw [<- hW3]; exact (Below.refl _ w2).alloc (Nat.le_refl _) _
 have HB3 : Hid (Below w.heap.size w W3) := HB2.out.trans (hbx.mono HB2.out.size)
 have HZ3 := Lib.hid (keepD HZ2.out hbx)
 have hP3 : W3.heap[P]? = some (.cells #[.int .u64 (c : Int), .string R, .bool b] 85 (0, 0)) := by rw [<- hW3, <- hP]; exact heap_newD _ _
 have p0 := cell_atD hP3 0
 have p1 := cell_atD hP3 1
 have p2 := cell_atD hP3 2
 have z0 := cell_atD HZ3.out 0
 have z1 := cell_atD HZ3.out 1
 have z2 := cell_atD HZ3.out 2
 have f0 := free_at HZ3.out 0
 have f1 := free_at HZ3.out 1
 have f2 := free_at HZ3.out 2
 simp only [List.getElem?_toArray, List.getElem?_cons_zero, List.getElem?_cons_succ] at p0 p1 p2 z0 z1 z2
 rw [<- hW3] at p0 p1 p2 z0 z1 z2 f0 f1 f2
 have HF : Hid (∀ a b' c' : Value, Below w.heap.size w ((((w2.alloc (.cells #[.int .u64 (c : Int), .string R, .bool b] 85)).setCell ⟨Z, 0, none⟩ a).setCell ⟨Z, 1, none⟩ b').setCell ⟨Z, 2, none⟩ c') /\ ((((w2.alloc (.cells #[.int .u64 (c : Int), .string R, .bool b] 85)).setCell ⟨Z, 0, none⟩ a).setCell ⟨Z, 1, none⟩ b').setCell ⟨Z, 2, none⟩ c').heap[Z]? = some (.cells #[a, b', c'] 78 (0, 0))) := fun a b' c' => by
  rw [hW3]
  exact ⟨set3_below HB3.out (by rw [HZe.out]; exact Nat.le_refl _) _ _ _, set3_heap HZ3.out _ _ _⟩
 clear hbx hW3 hP3
 by_cases hgood : b = true /\ c <= 1048576
 ·obtain ⟨rfl, hc⟩ := hgood
  have HC2 : Hid (rdV l = some (c, R.data.toList) /\ R.size <= 2000000000) := by
   rcases HC.out with h | h
   ·exact h.2
   ·exact absurd h.1 (by decide)
  have g1 : decide ((1048576 : Int) < (c : Int)) = false := decide_eq_false (by omega)
  have g2 : decide (1048576 < c) = false := decide_eq_false (by omega)
  have g3 : IntKind.i64.wrap (c : Int) = (c : Int) := IntWalk.i64_in _ (by omega)
  go_wp2_with fail
  rw [HW3.out] at p0 p1 p2 z0 z1 z2 f0 f1 f2 ⊢
  go_quiet (fail)
  go_wp2_with fail
  have HSk : Hid (seekD t l = (skL t ((c + 15) / 16) c c 0 0 R.data.toList).bind fun y => if y.2.1 <= y.2.2.length then some (y.1, y.2.2.drop y.2.1) else none) := by
   show _ = _
   unfold seekD
   rw [HC2.out.1, Option.bind_some]
   exact if_pos hc
  have HRl := HC2.out.2
  have HBd : Hid (Below w.heap.size w (W3.drewN nq)) := by have := HB3.out; exact ⟨this.os, this.tape, this.output, this.size, this.block⟩
  have HZd : Hid ((W3.drewN nq).heap[Z]? = some (.cells #[.int .i64 0, .string ⟨#[]⟩, .bool false] 78 (0, 0))) := HZ3.out
  clear HF p0 p1 p2 z0 z1 z2 f0 f1 f2 HZ3 HB3 HW3 HZ2 HB2 HZ1 HB1 HZ0 HB0 HW0 hP HC HC2 KU CV
  generalize W3.drewN nq = Wd at *
  clear hZ
  obtain ⟨f0, hf0⟩ : ∃ f0, (c + 15) / 16 = f0 := ⟨_, rfl⟩
  rw [hf0] at HSk
  have hr0 : R.data.toList.length <= 2000000000 := by rw [str_len]; exact HRl
  go_loopw [6, 7, 8, 9, 10] (fun lv rv ev ov nv wr => ∃ (z : Int) (f n left over en : Nat) (q : List UInt8), lv = .int .i64 (left : Int) /\ rv = .string (bs q) /\ ev = .int .u64 (en : Int) /\ ov = .int .u64 (over : Int) /\ nv = .int .i64 z /\
    z <= 1048576 /\ -16 < z /\ z.toNat = n /\ (n + 15) / 16 = f /\ left <= 1048576 /\ q.length <= 2000000000 /\ en < 18446744073709551616 /\ over < 18446744073709551616 /\
    Hid (skL t f0 c c 0 0 R.data.toList = skL t f n left over en q) /\ Hid (Below w.heap.size w wr) /\ Hid (wr.heap[Z]? = some (.cells #[.int .i64 0, .string ⟨#[]⟩, .bool false] 78 (0, 0)))) (fun _ _ _ _ nv _ => (intOf nv).toNat)
  case atStart => exact ⟨(c : Int), f0, c, c, 0, 0, R.data.toList, rfl, by rw [bs_back], rfl, rfl, rfl, by omega, by omega, by omega, hf0, hc, hr0, by omega, by omega, rfl, HBd.out, HZd.out⟩
  case round =>
   clear HBd HZd
   obtain ⟨z, f, n, left, over, en, q, rfl, rfl, rfl, rfl, rfl, hz1, hz2, hzn, hnf, hlf, hql, hen, hov, HS, HB, HZ⟩ := hrel
   by_cases hpos : 0 < z
   ·have hnz : n ≠ 0 := by omega
    obtain ⟨f, rfl⟩ : ∃ f', f = f' + 1 := ⟨f - 1, by omega⟩
    have hw16 : IntKind.i64.wrap (z - 16) = z - 16 := IntWalk.i64_in _ (by omega)
    have HS2 : Hid (skL t f0 c c 0 0 R.data.toList = (rdT q).bind fun x => (rdV x.2).bind fun y => skL t f (n - 16) (if geB t (bs x.1) = true then n else left) (if geB t (bs x.1) = true then en else over) ((en + y.1) % 18446744073709551616) y.2) := HS.out
    cases hr : (rdT q).bind (fun x => rdV x.2) with
    | none =>
     have CM := Lib.hid (fun W => pdmark_no (l := q) W hql hr)
     have HE : Hid (res = seekV none) := by
      show _ = _
      rw [<- HRes.out, HSk.out, HS2.out]
      cases h1 : rdT q with
      | none => rfl
      | some a =>
       rw [h1, Option.bind_some] at hr
       rw [Option.bind_some, hr]; rfl
     clear HS HS2 hr HSk HRes
     generalize bs q = Q at *
     go_wp2_with fail
     refine (CM.out _).mono ?_
     rintro e w4 ⟨⟨X, v, Q2, rfl⟩, hb4⟩
     have HB4 := Lib.hid (HB.out.trans (hb4.mono HB.out.size))
     have HZ4 := Lib.hid (keepD HZ.out hb4)
     clear hb4
     obtain ⟨Y, hY⟩ : ∃ Y, w4.heap.size = Y := ⟨_, rfl⟩
     obtain ⟨W5, hW5⟩ : ∃ W5, w4.alloc (.cells #[.string X, .int .u64 v, .string Q2, .bool false] 90) = W5 := ⟨_, rfl⟩
     have HW5 := Lib.hid hW5
     have hbx : Below w4.heap.size w4 W5 := by rw [<- hW5]; exact (Below.refl _ w4).alloc (Nat.le_refl _) _
     have HB5 : Hid (Below w.heap.size w W5) := HB4.out.trans (hbx.mono HB4.out.size)
     have HZ5 := Lib.hid (keepD HZ4.out hbx)
     have hY5 : W5.heap[Y]? = some (.cells #[.string X, .int .u64 v, .string Q2, .bool false] 90 (0, 0)) := by rw [<- hW5, <- hY]; exact heap_newD _ _
     have y3 : (w4.alloc (.cells #[.string X, .int .u64 v, .string Q2, .bool false] 90)).cell? ⟨Y, 3, none⟩ = some (.bool false) := by rw [hW5]; exact cell_atD hY5 3
     have z0 : (w4.alloc (.cells #[.string X, .int .u64 v, .string Q2, .bool false] 90)).cell? ⟨Z, 0, none⟩ = some (.int .i64 0) := by rw [hW5]; exact cell_atD HZ5.out 0
     have z1 : (w4.alloc (.cells #[.string X, .int .u64 v, .string Q2, .bool false] 90)).cell? ⟨Z, 1, none⟩ = some (.string ⟨#[]⟩) := by rw [hW5]; exact cell_atD HZ5.out 1
     have z2 : (w4.alloc (.cells #[.string X, .int .u64 v, .string Q2, .bool false] 90)).cell? ⟨Z, 2, none⟩ = some (.bool false) := by rw [hW5]; exact cell_atD HZ5.out 2
     have f0 : (w4.alloc (.cells #[.string X, .int .u64 v, .string Q2, .bool false] 90)).frozen? ⟨Z, 0, none⟩ = false := by rw [hW5]; exact free_at HZ5.out 0
     have f1 : (w4.alloc (.cells #[.string X, .int .u64 v, .string Q2, .bool false] 90)).frozen? ⟨Z, 1, none⟩ = false := by rw [hW5]; exact free_at HZ5.out 1
     have f2 : (w4.alloc (.cells #[.string X, .int .u64 v, .string Q2, .bool false] 90)).frozen? ⟨Z, 2, none⟩ = false := by rw [hW5]; exact free_at HZ5.out 2
     clear hbx hW5 hY5
     go_wp2_with fail
     have HBe : Hid (Below w.heap.size w (w4.alloc (.cells #[.string X, .int .u64 v, .string Q2, .bool false] 90))) := by show Below _ _ _; rw [HW5.out]; exact HB5.out
     have HZz : Hid ((w4.alloc (.cells #[.string X, .int .u64 v, .string Q2, .bool false] 90)).heap[Z]? = some (.cells #[.int .i64 0, .string ⟨#[]⟩, .bool false] 78 (0, 0))) := by show _ = _; rw [HW5.out]; exact HZ5.out
     exact bodyPost_ret (results_cell_row rfl _ _ Z 78 _ _ _ rfl (set3_heap HZz.out _ _ _) Try.underlying78 rfl (by kernel_rfl)) rfl ⟨by rw [HE.out]; rfl, set3_below HBe.out (by rw [HZe.out]; exact Nat.le_refl _) _ _ _⟩
    | some y =>
     obtain ⟨v, q2⟩ := y
     cases h1 : rdT q with
     | none => rw [h1] at hr; cases hr
     | some a =>
      obtain ⟨x, r⟩ := a
      rw [h1, Option.bind_some] at hr
      dsimp only at hr
      have CM := Lib.hid (fun W => pdmark_yes W hql h1 hr)
      have hvb := (Fr.rdV_some hr).2.1
      have hql2 : q2.length <= 2000000000 := by
       have := rdT_len h1
       have := rdV_lt hr
       omega
      have HS3 : Hid (skL t f0 c c 0 0 R.data.toList = skL t f (n - 16) (if geB t (bs x) = true then n else left) (if geB t (bs x) = true then en else over) ((en + v) % 18446744073709551616) q2) := by
       show _ = _
       rw [HS2.out, h1, Option.bind_some]
       dsimp only
       rw [hr, Option.bind_some]
      have hmz : (en + v) % 18446744073709551616 < 18446744073709551616 := Nat.mod_lt _ (by omega)
      have hwr : IntKind.u64.wrap ((en : Int) + (v : Int)) = (((en + v) % 18446744073709551616 : Nat) : Int) := by rw [IntKind.wrap_u64]; omega
      clear HS HS2 h1 hr
      generalize bs q = Q at *
      generalize bs x = X at *
      obtain ⟨Q2, hQ2⟩ : ∃ Q2, bs q2 = Q2 := ⟨_, rfl⟩
      have HQ2 := Lib.hid hQ2
      rw [hQ2] at CM
      clear hQ2
      obtain ⟨en2, hen2⟩ : ∃ en2, (en + v) % 18446744073709551616 = en2 := ⟨_, rfl⟩
      rw [hen2] at HS3 hmz hwr
      clear hen2
      by_cases hg : geB t X = true
      ·rw [if_pos hg, if_pos hg] at HS3
       have hg2 : Op.bytesLess t.toList X.toList = false := by unfold geB less at hg; simpa using hg
       have hg3 : ¬ (Op.bytesLess X.toList t.toList = false /\ (X.toList == t.toList) = false) := fun hh => by
        have := less_total (a := X) (b := t) hh.1 hg2
        subst this
        simp at hh
       clear hg
       go_wp2_with fail
       refine (CM.out _).mono ?_
       rintro e w4 ⟨rfl, hb4⟩
       have HB4 := Lib.hid (HB.out.trans (hb4.mono HB.out.size))
       have HZ4 := Lib.hid (keepD HZ.out hb4)
       clear hb4
       obtain ⟨Y, hY⟩ : ∃ Y, w4.heap.size = Y := ⟨_, rfl⟩
       obtain ⟨W5, hW5⟩ : ∃ W5, w4.alloc (.cells #[.string X, .int .u64 (v : Int), .string Q2, .bool true] 90) = W5 := ⟨_, rfl⟩
       have HW5 := Lib.hid hW5
       have hbx : Below w4.heap.size w4 W5 := by rw [<- hW5]; exact (Below.refl _ w4).alloc (Nat.le_refl _) _
       have HB5 : Hid (Below w.heap.size w W5) := HB4.out.trans (hbx.mono HB4.out.size)
       have HZ5 := Lib.hid (keepD HZ4.out hbx)
       have hY5 : W5.heap[Y]? = some (.cells #[.string X, .int .u64 (v : Int), .string Q2, .bool true] 90 (0, 0)) := by rw [<- hW5, <- hY]; exact heap_newD _ _
       have y0 : (w4.alloc (.cells #[.string X, .int .u64 (v : Int), .string Q2, .bool true] 90)).cell? ⟨Y, 0, none⟩ = some (.string X) := by rw [hW5]; exact cell_atD hY5 0
       have y1 : (w4.alloc (.cells #[.string X, .int .u64 (v : Int), .string Q2, .bool true] 90)).cell? ⟨Y, 1, none⟩ = some (.int .u64 (v : Int)) := by rw [hW5]; exact cell_atD hY5 1
       have y2 : (w4.alloc (.cells #[.string X, .int .u64 (v : Int), .string Q2, .bool true] 90)).cell? ⟨Y, 2, none⟩ = some (.string Q2) := by rw [hW5]; exact cell_atD hY5 2
       have y3 : (w4.alloc (.cells #[.string X, .int .u64 (v : Int), .string Q2, .bool true] 90)).cell? ⟨Y, 3, none⟩ = some (.bool true) := by rw [hW5]; exact cell_atD hY5 3
       clear hbx hW5 hY5
       go_wp2_with fail
       go_roundw
       case rel =>
        refine ⟨z - 16, f, n - 16, n, en, en2, q2, by go_num, by rw [HQ2.out], rfl, rfl, rfl, by omega, by omega, by omega, by omega, by omega, hql2, hmz, by omega, HS3.out, ?_, ?_⟩
        ·show Below _ _ _; rw [HW5.out]; exact HB5.out
        ·show _ = _; rw [HW5.out]; exact HZ5.out
       case measure => simp [intOf]; omega
      ·rw [if_neg hg, if_neg hg] at HS3
       have hg2 : Op.bytesLess t.toList X.toList = true := by unfold geB less at hg; simpa using hg
       have hg3 : Op.bytesLess X.toList t.toList = false := less_asymm hg2
       have hg4 : (X.toList == t.toList) = false := Fr.str_diff fun e => by
        have h2 : less t X = true := hg2
        rw [e, less_irr] at h2; cases h2
       clear hg
       go_wp2_with fail
       refine (CM.out _).mono ?_
       rintro e w4 ⟨rfl, hb4⟩
       have HB4 := Lib.hid (HB.out.trans (hb4.mono HB.out.size))
       have HZ4 := Lib.hid (keepD HZ.out hb4)
       clear hb4
       obtain ⟨Y, hY⟩ : ∃ Y, w4.heap.size = Y := ⟨_, rfl⟩
       obtain ⟨W5, hW5⟩ : ∃ W5, w4.alloc (.cells #[.string X, .int .u64 (v : Int), .string Q2, .bool true] 90) = W5 := ⟨_, rfl⟩
       have HW5 := Lib.hid hW5
       have hbx : Below w4.heap.size w4 W5 := by rw [<- hW5]; exact (Below.refl _ w4).alloc (Nat.le_refl _) _
       have HB5 : Hid (Below w.heap.size w W5) := HB4.out.trans (hbx.mono HB4.out.size)
       have HZ5 := Lib.hid (keepD HZ4.out hbx)
       have hY5 : W5.heap[Y]? = some (.cells #[.string X, .int .u64 (v : Int), .string Q2, .bool true] 90 (0, 0)) := by rw [<- hW5, <- hY]; exact heap_newD _ _
       have y0 : (w4.alloc (.cells #[.string X, .int .u64 (v : Int), .string Q2, .bool true] 90)).cell? ⟨Y, 0, none⟩ = some (.string X) := by rw [hW5]; exact cell_atD hY5 0
       have y1 : (w4.alloc (.cells #[.string X, .int .u64 (v : Int), .string Q2, .bool true] 90)).cell? ⟨Y, 1, none⟩ = some (.int .u64 (v : Int)) := by rw [hW5]; exact cell_atD hY5 1
       have y2 : (w4.alloc (.cells #[.string X, .int .u64 (v : Int), .string Q2, .bool true] 90)).cell? ⟨Y, 2, none⟩ = some (.string Q2) := by rw [hW5]; exact cell_atD hY5 2
       have y3 : (w4.alloc (.cells #[.string X, .int .u64 (v : Int), .string Q2, .bool true] 90)).cell? ⟨Y, 3, none⟩ = some (.bool true) := by rw [hW5]; exact cell_atD hY5 3
       clear hbx hW5 hY5
       go_wp2_with fail
       go_roundw
       case rel =>
        refine ⟨z - 16, f, n - 16, left, over, en2, q2, by go_num, by rw [HQ2.out], rfl, rfl, rfl, by omega, by omega, by omega, by omega, by omega, hql2, hmz, by omega, HS3.out, ?_, ?_⟩
        ·show Below _ _ _; rw [HW5.out]; exact HB5.out
        ·show _ = _; rw [HW5.out]; exact HZ5.out
       case measure => simp [intOf]; omega
   ·have hf0 : f = 0 := by omega
    subst hf0
    have HE0 : Hid (res = seekV (if over <= q.length then some (left, q.drop over) else none)) := by
     show _ = _
     rw [<- HRes.out, HSk.out, HS.out]
     rfl
    have hqs := Fr.bs_size q
    have hx : (bs q).extract over (bs q).size = bs (q.drop over) := by rw [Fr.ext_drop, bs_list]
    have z0 := cell_atD HZ.out 0
    have z1 := cell_atD HZ.out 1
    have z2 := cell_atD HZ.out 2
    have f0' := free_at HZ.out 0
    have f1 := free_at HZ.out 1
    have f2 := free_at HZ.out 2
    simp only [List.getElem?_toArray, List.getElem?_cons_zero, List.getElem?_cons_succ] at z0 z1 z2
    have hwq : IntKind.u64.wrap (q.length : Int) = (q.length : Int) := by rw [IntKind.wrap_u64]; omega
    have HHx := Lib.hid hx
    have HHq := Lib.hid hqs
    clear hx HS HSk HRes
    by_cases ho : over <= q.length
    ·rw [if_pos ho] at HE0
     have HE := HE0
     have hoz : ¬ (q.length : Int) < (over : Int) := by omega
     have hoz2 : ¬ q.length < over := by omega
     have hod : decide (q.length < over) = false := decide_eq_false hoz2
     have ho1 : (over : Int) <= (q.length : Int) := by omega
     have ho0 : (0 : Int) <= (over : Int) := by omega
     have hon : (over : Int).toNat = over := rfl
     generalize q.length = m at *
     generalize bs q = Q at *
     rw [hqs] at HHx
     have HQx := HHx.out
     clear HHx
     go_wp2_with fail
     exact bodyPost_ret (results_cell_row rfl _ _ Z 78 _ _ _ rfl (set3_heap HZ.out _ _ _) Try.underlying78 rfl (by kernel_rfl)) rfl ⟨by rw [HE.out]; show _ = Ending.returned (Value.agg #[.int .i64 (left : Int), .string (bs (q.drop over)), .bool true]); rw [<- HQx], set3_below HB.out (by rw [HZe.out]; exact Nat.le_refl _) _ _ _⟩
    ·rw [if_neg ho] at HE0
     have HE := HE0
     have hoz : (q.length : Int) < (over : Int) := by omega
     have hoz2 : q.length < over := by omega
     have hod : decide (q.length < over) = true := decide_eq_true hoz2
     generalize q.length = m at *
     generalize bs q = Q at *
     clear HHx
     go_wp2_with fail
     exact bodyPost_ret (results_cell_row rfl _ _ Z 78 _ _ _ rfl (set3_heap HZ.out _ _ _) Try.underlying78 rfl (by kernel_rfl)) rfl ⟨by rw [HE.out]; rfl, set3_below HB.out (by rw [HZe.out]; exact Nat.le_refl _) _ _ _⟩
 ·have HE : Hid (res = seekV none) := by
   show _ = _
   rw [<- HRes.out]
   unfold seekD
   rcases HC.out with ⟨hb, h1, _⟩ | ⟨hb, h1⟩
   ·rw [h1, Option.bind_some]
    dsimp only
    rw [if_neg fun h => hgood ⟨hb, h⟩]
   ·rw [h1]; rfl
  clear HRes
  cases b with
  | false =>
   clear hgood
   go_wp2_with fail
   all_goals exact bodyPost_ret (results_cell_row rfl _ _ Z 78 _ _ _ rfl (HF.out _ _ _).2 Try.underlying78 rfl (by kernel_rfl)) rfl ⟨by rw [HE.out]; rfl, (HF.out _ _ _).1⟩
  | true =>
   have hc1 : (1048576 : Int) < (c : Int) := by
    have : ¬ c <= 1048576 := fun h => hgood ⟨rfl, h⟩
    omega
   have hc2 : 1048576 < c := by omega
   have hc3 : decide (1048576 < c) = true := decide_eq_true hc2
   clear hgood
   go_wp2_with fail
   all_goals exact bodyPost_ret (results_cell_row rfl _ _ Z 78 _ _ _ rfl (HF.out _ _ _).2 Try.underlying78 rfl (by kernel_rfl)) rfl ⟨by rw [HE.out]; rfl, (HF.out _ _ _).1⟩
end Go.Proofs.Ytjfclpicoamfaaa.Di
