/- The program's tables of kinds and foldings, as they lie in memory. -/
import Derived.Test.YtbblmpibekkbfaaDoorRows
import Derived.Lib.LaidU8T
import Derived.PinnedBridge
namespace Go.Proofs.YtbblmpibekkbfaaDoor
open Go.RowKit Go.Lib

def kindsT : List (Int × Int × Int) := [(9, 13, 3), (32, 32, 3), (48, 57, 2), (65, 90, 1), (97, 122, 1), (133, 133, 3), (160, 160, 3), (170, 170, 1), (181, 181, 1), (186, 186, 1), (192, 214, 1), (216, 246, 1), (248, 591, 1), (880, 884, 1), (886, 887, 1), (890, 893, 1), (895, 895, 1), (902, 902, 1), (904, 906, 1), (908, 908, 1), (910, 929, 1), (931, 1013, 1), (1015, 1153, 1), (1162, 1327, 1), (1329, 1366, 1), (1377, 1415, 1), (1488, 1514, 1), (1632, 1641, 2), (2406, 2415, 2), (8192, 8202, 3), (8232, 8233, 3), (12288, 12288, 3), (19968, 40959, 1), (44032, 55203, 1)]
def foldsT : List (Int × Int × Int × Int) := [(65, 90, 1, 32), (192, 214, 1, 32), (216, 222, 1, 32), (256, 303, 2, 1), (313, 328, 2, 1), (330, 375, 2, 1), (377, 382, 2, 1), (913, 929, 1, 32), (931, 937, 1, 32), (962, 962, 1, 1), (1024, 1039, 1, 80), (1040, 1071, 1, 32), (1120, 1153, 2, 1), (1162, 1215, 2, 1), (1232, 1327, 2, 1), (1329, 1366, 1, 48)]

theorem uaddr_plain {w : World} {a : Addr} {v : Value} (h : w.cell? a = some v) : ∃ b off, a = ⟨b, off, none⟩ := by
  obtain ⟨b, off, spot⟩ := a
  unfold World.cell? at h
  split at h
  · cases spot with
    | none => exact ⟨b, off, rfl⟩
    | some s => simp at h
  · cases h
theorem uadd_plain (b off j : Nat) : (⟨b, off, none⟩ : Addr).add j = ⟨b, off + j, none⟩ := by unfold Addr.add; split <;> simp_all

section
variable {H : Type} {enc : TypeId × Value → H} {P : Program} {w : World} {base : Nat} {sp : Nat → Bool} {held : Bool}
/-- A struct whose fields are integers of whatever kinds, that reads as these numbers, holds them, cell for cell. -/
theorem nums_of_struct {fuel : Nat} {t : TypeId} {fs : Array Field} {cs : List Value} {zs : List (IntKind × Int)} {p : List MemPlace} (ht : P.underlying t = some (.struct fs))
    (hf : ∀ (i : Nat) (f : Field), fs[i]? = some f → (∃ k, P.underlying f.type = some (.int k)) ∧ f.offset = i ∧ P.cellsOf f.type = 1) (hct : P.cellsOf t = fs.size)
    (h : DataW.trod enc P w base sp held fuel t cs = some (.agg (zs.map fun z => .lit (.int z.1 z.2)), p)) : cs = zs.map fun z => Value.int z.1 z.2 := by
  obtain ⟨xs, n, rfl, hx, hl, hxl, hall⟩ := DataW.trod_struct ht h
  have hxs : xs.map (·.1) = zs.map fun z => (DataW.lit (.int z.1 z.2) : DataW H) := by
    have := congrArg Prod.fst hx
    simpa using this.symm
  have hzl : zs.length = fs.size := by
    have := congrArg List.length hxs
    simp at this
    omega
  apply List.ext_getElem?
  intro i
  by_cases hi : i < fs.size
  · obtain ⟨⟨k, hu⟩, ho, hc⟩ := hf i fs[i] (by simp [hi])
    have h1 := hall i fs[i] (by simp [hi])
    obtain ⟨b, hb⟩ : ∃ b, xs[i]? = some b := ⟨xs[i]'(by omega), List.getElem?_eq_getElem (by omega)⟩
    rw [hb, ho, hc] at h1
    obtain ⟨z, hcz, rfl, _⟩ := DataW.trod_int hu h1
    have h2 : cs[i]? = some (.int k z) := by
      have := congrArg (·[0]?) hcz
      simpa [List.getElem?_take, List.getElem?_drop] using this
    have h3 : (xs.map (·.1))[i]? = some (DataW.lit (.int k z) : DataW H) := by simp [hb]
    rw [hxs] at h3
    simp only [List.getElem?_map, Option.map_eq_some_iff, DataW.lit.injEq, Lit.int.injEq] at h3
    obtain ⟨z', hz', hk, hzz⟩ := h3
    simp [h2, hz', hk, hzz]
  · rw [List.getElem?_eq_none (by omega), List.getElem?_eq_none (by simp; omega)]
end

/-- A variable that reads as rows of numbers: the slice that it holds, and the cells of each row. -/
theorem rows_at {P : Program} {w : World} {name : String} {g t e : Nat} {fs : Array Field} {L : List (List (IntKind × Int))} (hg : P.globalNamed name = some g) (hty : (P.globals[g]?).map (·.type) = some t)
    (ht : P.underlying t = some (.slice e)) (hst : P.underlying e = some (.struct fs))
    (hf : ∀ (i : Nat) (f : Field), fs[i]? = some f → (∃ k, P.underlying f.type = some (.int k)) ∧ f.offset = i ∧ P.cellsOf f.type = 1) (hct : P.cellsOf e = fs.size) (hfs : 0 < fs.size)
    (hL : 0 < L.length) (hrow : ∀ x ∈ L, x.length = fs.size)
    (h : VarReads P w name (.slice (L.map fun r => .agg (r.map fun z => .lit (.int z.1 z.2))) [])) :
    ∃ b off, w.cell? ⟨g, 0, none⟩ = some (.slice (some ⟨b, off, none⟩) L.length L.length) ∧ ∀ i (hi : i < L.length) j (hj : j < L[i].length), w.cell? ⟨b, off + i * fs.size + j, none⟩ = some (.int L[i][j].1 L[i][j].2) := by
  obtain ⟨g', t', cs, fuel, p, hg', hty', hvar, hd⟩ := h
  obtain rfl := Option.some.inj (hg.symm.trans hg')
  obtain rfl := Option.some.inj (hty.symm.trans hty')
  rcases DataW.trod_slice ht hd with ⟨_, hx⟩ | ⟨a, len, cap, elems, rest, n, rfl, hcs, hx, _, hlc, _, hel, hat, hsp, _⟩
  · cases hx
  have hx1 := (DataW.slice.inj (congrArg Prod.fst hx))
  have hel2 : elems.map (·.1) = L.map fun r => (DataW.agg (r.map fun z => .lit (.int z.1 z.2)) : DataW Unit) := hx1.1.symm
  have hre : rest = [] := by
    have := hx1.2
    exact List.map_eq_nil_iff.1 this.symm
  have hlen : len = L.length := by
    have := congrArg List.length hel2
    simp at this
    omega
  have hcap : cap = L.length := by
    have := (hsp rfl).1
    rw [hre] at this
    simp at this
    omega
  subst hlen hcap
  have hcell : w.cell? ⟨g, 0, none⟩ = some (.slice (some a) L.length L.length) := by
    rw [World.var?_cell hg hvar 0, ← Array.getElem?_toList, hcs]; rfl
  have hrow1 : ∀ i (hi : i < L.length), w.cells? 0 (a.add (i * fs.size)) fs.size = some (L[i].map fun z => Value.int z.1 z.2) := by
    intro i hi
    have h1 := hat i hi
    obtain ⟨y, hy⟩ : ∃ y, elems[i]? = some y := ⟨elems[i]'(by omega), List.getElem?_eq_getElem (by omega)⟩
    rw [hy, hct, Option.bind_eq_some_iff] at h1
    obtain ⟨cs', h2, h3⟩ := h1
    have hy1 : y.1 = .agg (L[i].map fun z => .lit (.int z.1 z.2)) := by
      have h4 : (elems.map (·.1))[i]? = some y.1 := by simp [hy]
      rw [hel2] at h4
      simp only [List.getElem?_map, List.getElem?_eq_getElem hi, Option.map_some, Option.some.injEq] at h4
      exact h4.symm
    obtain ⟨y1, y2⟩ := y
    subst hy1
    rw [h2, nums_of_struct hst hf hct h3]
  obtain ⟨b, off, rfl⟩ : ∃ b off, a = ⟨b, off, none⟩ := by
    have h0 := (World.cells?_some (hrow1 0 hL)).2.2 0 hfs
    have hl0 : 0 < L[0].length := by rw [hrow _ (List.getElem_mem hL)]; exact hfs
    rw [List.getElem?_map, List.getElem?_eq_getElem hl0] at h0
    obtain ⟨b, off, hab⟩ := uaddr_plain h0
    exact ⟨b, off, by simpa [Addr.add] using hab⟩
  refine ⟨b, off, hcell, fun i hi j hj => ?_⟩
  have hj2 : j < fs.size := by rw [← hrow _ (List.getElem_mem hi)]; exact hj
  have h0 := (World.cells?_some (hrow1 i hi)).2.2 j hj2
  rw [uadd_plain, uadd_plain] at h0
  rw [h0, List.getElem?_map, List.getElem?_eq_getElem hj]
  rfl

/-- The table of kinds lies in memory. -/
def KindsAt (w : World) : Prop := ∃ b off, w.cell? ⟨1, 0, none⟩ = some (.slice (some ⟨b, off, none⟩) 34 34) ∧ ∀ i (h : i < kindsT.length), w.cell? ⟨b, off + i * 3, none⟩ = some (.int .i32 kindsT[i].1) ∧ w.cell? ⟨b, off + i * 3 + 1, none⟩ = some (.int .i32 kindsT[i].2.1) ∧ w.cell? ⟨b, off + i * 3 + 2, none⟩ = some (.int .i64 kindsT[i].2.2)
def FoldsAt (w : World) : Prop := ∃ b off, w.cell? ⟨0, 0, none⟩ = some (.slice (some ⟨b, off, none⟩) 16 16) ∧ ∀ i (h : i < foldsT.length), w.cell? ⟨b, off + i * 4, none⟩ = some (.int .i32 foldsT[i].1) ∧ w.cell? ⟨b, off + i * 4 + 1, none⟩ = some (.int .i32 foldsT[i].2.1) ∧ w.cell? ⟨b, off + i * 4 + 2, none⟩ = some (.int .i32 foldsT[i].2.2.1) ∧ w.cell? ⟨b, off + i * 4 + 3, none⟩ = some (.int .i32 foldsT[i].2.2.2)
def rowK (x : Int × Int × Int) : List (IntKind × Int) := [(.i32, x.1), (.i32, x.2.1), (.i64, x.2.2)]
def rowF (x : Int × Int × Int × Int) : List (IntKind × Int) := [(.i32, x.1), (.i32, x.2.1), (.i32, x.2.2.1), (.i32, x.2.2.2)]
theorem kinds_data : (Rows.laid_codex_utf_kinds : DataW Unit) = .slice ((kindsT.map rowK).map fun r => .agg (r.map fun z => .lit (.int z.1 z.2))) [] := by kernel_rfl
theorem folds_data : (Rows.laid_codex_utf_folds : DataW Unit) = .slice ((foldsT.map rowF).map fun r => .agg (r.map fun z => .lit (.int z.1 z.2))) [] := by kernel_rfl
theorem u_i32 : ∃ k, Tryd.prog.underlying 21 = some (.int k) := ⟨_, Tryd.underlying21⟩
theorem u_i64 : ∃ k, Tryd.prog.underlying 3 = some (.int k) := ⟨_, Tryd.underlying3⟩
theorem c_i32 : Tryd.prog.cellsOf 21 = 1 := by kernel_rfl
theorem c_i64 : Tryd.prog.cellsOf 3 = 1 := by kernel_rfl
theorem kinds_at {w : World} (h : VarReads Tryd.prog w "codex/utf.kinds" Rows.laid_codex_utf_kinds) : KindsAt w := by
  rw [kinds_data] at h
  obtain ⟨b, off, h1, h2⟩ := rows_at (L := kindsT.map rowK) (g := 1) (t := 75) (e := 77) (by kernel_rfl) (by kernel_rfl) Tryd.underlying75 Tryd.underlying77 (fun i f hi => by
    match i, hi with
    | 0, hi => simp at hi; subst hi; exact ⟨u_i32, rfl, c_i32⟩
    | 1, hi => simp at hi; subst hi; exact ⟨u_i32, rfl, c_i32⟩
    | 2, hi => simp at hi; subst hi; exact ⟨u_i64, rfl, c_i64⟩
    | i + 3, hi => simp at hi) (by kernel_rfl) (by decide) (by decide) (fun x hx => by obtain ⟨y, _, rfl⟩ := List.mem_map.1 hx; rfl) h
  refine ⟨b, off, h1, fun i hi => ?_⟩
  have hi2 : i < (kindsT.map rowK).length := by rw [List.length_map]; exact hi
  have e : (kindsT.map rowK)[i] = rowK kindsT[i] := List.getElem_map ..
  have hl : ∀ j, j < 3 → j < (kindsT.map rowK)[i].length := fun j hj => by rw [e]; exact hj
  have k0 := h2 i hi2 0 (hl 0 (by omega))
  have k1 := h2 i hi2 1 (hl 1 (by omega))
  have k2 := h2 i hi2 2 (hl 2 (by omega))
  simp only [e] at k0 k1 k2
  exact ⟨k0, k1, k2⟩
theorem folds_at {w : World} (h : VarReads Tryd.prog w "codex/utf.folds" Rows.laid_codex_utf_folds) : FoldsAt w := by
  rw [folds_data] at h
  obtain ⟨b, off, h1, h2⟩ := rows_at (L := foldsT.map rowF) (g := 0) (t := 59) (e := 61) (by kernel_rfl) (by kernel_rfl) Tryd.underlying59 Tryd.underlying61 (fun i f hi => by
    match i, hi with
    | 0, hi => simp at hi; subst hi; exact ⟨u_i32, rfl, c_i32⟩
    | 1, hi => simp at hi; subst hi; exact ⟨u_i32, rfl, c_i32⟩
    | 2, hi => simp at hi; subst hi; exact ⟨u_i32, rfl, c_i32⟩
    | 3, hi => simp at hi; subst hi; exact ⟨u_i32, rfl, c_i32⟩
    | i + 4, hi => simp at hi) (by kernel_rfl) (by decide) (by decide) (fun x hx => by obtain ⟨y, _, rfl⟩ := List.mem_map.1 hx; rfl) h
  refine ⟨b, off, h1, fun i hi => ?_⟩
  have hi2 : i < (foldsT.map rowF).length := by rw [List.length_map]; exact hi
  have e : (foldsT.map rowF)[i] = rowF foldsT[i] := List.getElem_map ..
  have hl : ∀ j, j < 4 → j < (foldsT.map rowF)[i].length := fun j hj => by rw [e]; exact hj
  have k0 := h2 i hi2 0 (hl 0 (by omega))
  have k1 := h2 i hi2 1 (hl 1 (by omega))
  have k2 := h2 i hi2 2 (hl 2 (by omega))
  have k3 := h2 i hi2 3 (hl 3 (by omega))
  simp only [e] at k0 k1 k2 k3
  exact ⟨k0, k1, k2, k3⟩
theorem ulive {w : World} {a : Addr} {v : Value} (h : w.cell? a = some v) : a.block < w.heap.size := World.block_lt_of_cell? w a h
theorem KindsAt.below {w w' : World} (h : KindsAt w) (hb : Below w.heap.size w w') : KindsAt w' := by
  obtain ⟨b, off, h1, h2⟩ := h
  have k : ∀ {a : Addr} {v : Value}, w.cell? a = some v → w'.cell? a = some v := fun e => (hb.cell (ulive e)).trans e
  exact ⟨b, off, k h1, fun i hi => ⟨k (h2 i hi).1, k (h2 i hi).2.1, k (h2 i hi).2.2⟩⟩
theorem FoldsAt.below {w w' : World} (h : FoldsAt w) (hb : Below w.heap.size w w') : FoldsAt w' := by
  obtain ⟨b, off, h1, h2⟩ := h
  have k : ∀ {a : Addr} {v : Value}, w.cell? a = some v → w'.cell? a = some v := fun e => (hb.cell (ulive e)).trans e
  exact ⟨b, off, k h1, fun i hi => ⟨k (h2 i hi).1, k (h2 i hi).2.1, k (h2 i hi).2.2.1, k (h2 i hi).2.2.2⟩⟩
/-- All tables that the program reads. -/
def Tabs (w : World) : Prop := Lib.Utf8Tabs 2 3 w ∧ KindsAt w ∧ FoldsAt w
theorem Tabs.below {w w' : World} (h : Tabs w) (hb : Below w.heap.size w w') : Tabs w' := ⟨Utf8Tabs_below h.1 hb, h.2.1.below hb, h.2.2.below hb⟩
end Go.Proofs.YtbblmpibekkbfaaDoor
