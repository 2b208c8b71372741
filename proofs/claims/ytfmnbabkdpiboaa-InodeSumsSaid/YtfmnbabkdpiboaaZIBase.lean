/- Extents and files in memory, as what is there to be read; rows of extents of one's own. -/
import Derived.Test.YtfmnbabkdpiboaaZIName
import Derived.OneCell
import Derived.IntWalk
import Derived.Lib.FrozenHead
import Derived.Laws.IdiomStrings
import Derived.Laws.IdiomCopy

namespace Go.Proofs.Ytfmnbabkdpiboaa
open Go.RowKit
open Fr (cell_at)

theorem add_at (b off j : Nat) : (⟨b, off, none⟩ : Addr).add j = ⟨b, off + j, none⟩ := by unfold Addr.add; split <;> simp_all
theorem _root_.Go.Proofs.Try.infoX : (Try.prog.info? 52).map (fun i => (i.zero, i.size, i.bytes)) = some (some (.agg #[.int .i64 0, .int .i64 0]), 2, 16) := by kernel_rfl
/-- A machine's number. -/
def I64 (x : Int) : Prop := -9223372036854775808 ≤ x ∧ x ≤ 9223372036854775807
/-- The cells of a row of extents. -/
def flatE : List (Int × Int) → List Value
  | [] => []
  | x :: r => .int .i64 x.1 :: .int .i64 x.2 :: flatE r
theorem flatE_length (l : List (Int × Int)) : (flatE l).length = l.length * 2 := by
  induction l with
  | nil => rfl
  | cons x r ih => simp [flatE, ih]; omega
theorem flatE_append (l m : List (Int × Int)) : flatE (l ++ m) = flatE l ++ flatE m := by
  induction l with
  | nil => rfl
  | cons x r ih => simp [flatE, ih]
theorem flatE_fst (l : List (Int × Int)) (i : Nat) (h : i < l.length) : (flatE l)[i * 2]? = some (.int .i64 (l[i]).1) := by
  induction l generalizing i with
  | nil => cases h
  | cons x r ih =>
    cases i with
    | zero => rfl
    | succ j =>
      have e : (j + 1) * 2 = j * 2 + 1 + 1 := by omega
      rw [e]; simpa [flatE] using ih j (by simpa using h)
theorem flatE_snd (l : List (Int × Int)) (i : Nat) (h : i < l.length) : (flatE l)[i * 2 + 1]? = some (.int .i64 (l[i]).2) := by
  induction l generalizing i with
  | nil => cases h
  | cons x r ih =>
    cases i with
    | zero => rfl
    | succ j =>
      have e : (j + 1) * 2 + 1 = j * 2 + 1 + 1 + 1 := by omega
      rw [e]; simpa [flatE] using ih j (by simpa using h)
theorem flatE_one (l : List (Int × Int)) : ∀ u ∈ flatE l, u.oneCell' = true := by
  induction l with
  | nil => intro u h; cases h
  | cons x r ih =>
    intro u h
    simp only [flatE, List.mem_cons] at h
    rcases h with rfl | rfl | h
    · rfl
    · rfl
    · exact ih u h
def ExtsAt (w : World) (b off : Nat) (L : List (Int × Int)) : Prop := ∀ j (h : j < L.length), w.cell? ⟨b, off + j * 2, none⟩ = some (.int .i64 L[j].1) ∧ w.cell? ⟨b, off + j * 2 + 1, none⟩ = some (.int .i64 L[j].2)
/-- A slice of extents that reads as a list. -/
def SlE (w : World) (v : Value) (L : List (Int × Int)) : Prop := ∃ ao c, v = .slice ao L.length c ∧ L.length ≤ c ∧ (L = [] ∨ ∃ b off, ao = some ⟨b, off, none⟩ ∧ b < w.heap.size ∧ ExtsAt w b off L)
theorem ExtsAt.below {w w' : World} {b off : Nat} {L : List (Int × Int)} {B : Nat} (h : ExtsAt w b off L) (hb : Below B w w') (hB : b < B) : ExtsAt w' b off L :=
  fun j hj => ⟨(hb.cell (p := ⟨b, off + j * 2, none⟩) hB).trans (h j hj).1, (hb.cell (p := ⟨b, off + j * 2 + 1, none⟩) hB).trans (h j hj).2⟩
theorem SlE.below {w w' : World} {v : Value} {L : List (Int × Int)} (h : SlE w v L) (hb : Below w.heap.size w w') : SlE w' v L := by
  obtain ⟨ao, c, hv, hc, h⟩ := h
  refine ⟨ao, c, hv, hc, ?_⟩
  rcases h with h | ⟨b, off, e, hlt, h⟩
  · exact .inl h
  · exact .inr ⟨b, off, e, Nat.lt_of_lt_of_le hlt hb.size, h.below hb hlt⟩
/-- A row of extents of one's own: in blocks from B on. -/
def OwnE (B : Nat) (w : World) (v : Value) (L : List (Int × Int)) : Prop := w.ownsRow B 52 2 v L.length (flatE L)
theorem own_below {B : Nat} {e : TypeId} {k : Nat} {v : Value} {n : Nat} {xs : List Value} {w w' : World} (h : w.ownsRow B e k v n xs) (hb : Below w.heap.size w w') : w'.ownsRow B e k v n xs := by
  refine ⟨h.1, ?_⟩
  rcases h.2 with hn | ⟨g, cap, cur, rfl, hbg, hg, rest⟩
  · exact .inl hn
  · exact .inr ⟨g, cap, cur, rfl, hbg, by rw [hb.block g (Array.getElem?_eq_some_iff.1 hg).1]; exact hg, rest⟩
theorem OwnE.below {B : Nat} {w w' : World} {v : Value} {L : List (Int × Int)} (h : OwnE B w v L) (hb : Below w.heap.size w w') : OwnE B w' v L := Go.Proofs.Ytfmnbabkdpiboaa.own_below h hb
theorem OwnE.nil (B : Nat) (w : World) : OwnE B w (.slice none 0 0) [] := World.ownsRow_nil _ _ _ _
theorem OwnE.here {B : Nat} {w : World} {v : Value} {L : List (Int × Int)} (h : OwnE B w v L) (h0 : 0 < L.length) : ∃ g c, v = .slice (some ⟨g, 0, none⟩) L.length c ∧ L.length ≤ c ∧ B ≤ g ∧ g < w.heap.size ∧ ExtsAt w g 0 L := by
  have hO := h
  rcases h.2 with ⟨_, hn⟩ | ⟨g, cap, cur, rfl, hbg, hg, hc, _⟩
  · omega
  · refine ⟨g, cap, rfl, hc, hbg, (Array.getElem?_eq_some_iff.1 hg).1, fun j hj => ?_⟩
    rw [Nat.zero_add, World.ownsRow.cellAt hO (j * 2) (by omega), World.ownsRow.cellAt hO (j * 2 + 1) (by omega)]
    exact ⟨flatE_fst L j hj, flatE_snd L j hj⟩
theorem OwnE.sl {B : Nat} {w : World} {v : Value} {L : List (Int × Int)} (h : OwnE B w v L) : SlE w v L := by
  by_cases h0 : 0 < L.length
  · obtain ⟨g, c, hv, hc, _, hg, hs⟩ := h.here h0
    exact ⟨_, c, hv, hc, .inr ⟨g, 0, rfl, hg, hs⟩⟩
  · have e : L = [] := List.eq_nil_of_length_eq_zero (by omega)
    subst e
    rcases h.2 with ⟨hv, _⟩ | ⟨g, cap, cur, hv, _⟩
    · exact ⟨_, 0, hv, Nat.le_refl _, .inl rfl⟩
    · exact ⟨_, cap, hv, Nat.zero_le _, .inl rfl⟩
/-- A file in its four cells. -/
def fileAgg (f : Fl) (ve : Value) : Value := .agg #[.string f.name, .bool f.shut, .int .i64 f.size, ve]
structure FileAt (w : World) (b o : Nat) (f : Fl) (ve : Value) : Prop where
  c0 : w.cell? ⟨b, o, none⟩ = some (.string f.name)
  c1 : w.cell? ⟨b, o + 1, none⟩ = some (.bool f.shut)
  c2 : w.cell? ⟨b, o + 2, none⟩ = some (.int .i64 f.size)
  c3 : w.cell? ⟨b, o + 3, none⟩ = some ve
  ext : SlE w ve f.ext
def FilesAt (w : World) (b off : Nat) (L : List Fl) : Prop := ∀ j (h : j < L.length), ∃ ve, FileAt w b (off + j * 4) L[j] ve
/-- A slice of files that reads as a list. -/
def SlF (w : World) (v : Value) (L : List Fl) : Prop := ∃ ao c, v = .slice ao L.length c ∧ L.length ≤ c ∧ (L = [] ∨ ∃ b off, ao = some ⟨b, off, none⟩ ∧ b < w.heap.size ∧ FilesAt w b off L)
theorem FileAt.below {w w' : World} {b o : Nat} {f : Fl} {ve : Value} (h : FileAt w b o f ve) (hb : Below w.heap.size w w') (hB : b < w.heap.size) : FileAt w' b o f ve :=
  ⟨(hb.cell (p := ⟨b, o, none⟩) hB).trans h.c0, (hb.cell (p := ⟨b, o + 1, none⟩) hB).trans h.c1, (hb.cell (p := ⟨b, o + 2, none⟩) hB).trans h.c2, (hb.cell (p := ⟨b, o + 3, none⟩) hB).trans h.c3, h.ext.below hb⟩
theorem SlF.below {w w' : World} {v : Value} {L : List Fl} (h : SlF w v L) (hb : Below w.heap.size w w') : SlF w' v L := by
  obtain ⟨ao, c, hv, hc, h⟩ := h
  refine ⟨ao, c, hv, hc, ?_⟩
  rcases h with h | ⟨b, off, e, hlt, h⟩
  · exact .inl h
  · exact .inr ⟨b, off, e, Nat.lt_of_lt_of_le hlt hb.size, fun j hj => by obtain ⟨ve, hv⟩ := h j hj; exact ⟨ve, hv.below hb hlt⟩⟩
theorem SlF.at {w : World} {v : Value} {L : List Fl} (h : SlF w v L) {k : Nat} (hk : k < L.length) : ∃ b off c, v = .slice (some ⟨b, off, none⟩) L.length c ∧ L.length ≤ c ∧ b < w.heap.size ∧ FilesAt w b off L := by
  obtain ⟨ao, c, hv, hc, h⟩ := h
  rcases h with h | ⟨b, off, rfl, hb, h⟩
  · subst h; simp at hk
  · exact ⟨b, off, c, hv, hc, hb, h⟩
/-- All its numbers are a machine's. -/
def Nums64 (L : List Fl) : Prop := ∀ f ∈ L, f.name.size ≤ 9223372036854775807 ∧ I64 f.size ∧ ∀ x ∈ f.ext, I64 x.1 ∧ I64 x.2
end Go.Proofs.Ytfmnbabkdpiboaa
/- What filled, among, startOf and endOf answer. -/
namespace Go.Proofs.Ytfmnbabkdpiboaa
open Go.RowKit
open Fr (below_drewN)

set_option maxRecDepth 100000 in
set_option maxHeartbeats 1000000 in
theorem startOf_any (x : Int × Int) (w : World) : Calls Try.prog 47 #[.agg #[.int .i64 x.1, .int .i64 x.2]] w fun e w' => e = .returned (.int .i64 x.1) ∧ Below w.heap.size w w' := by
  have HB := Lib.hid (Below.refl w.heap.size w)
  go_enter Try.func47, Try.ntmps47
  go_wp2
  go_ret
  exact ⟨rfl, HB.out.alloc (Nat.le_refl _) _⟩
set_option maxRecDepth 100000 in
set_option maxHeartbeats 1000000 in
theorem endOf_any (x : Int × Int) (w : World) (h : I64 (x.1 + x.2)) : Calls Try.prog 48 #[.agg #[.int .i64 x.1, .int .i64 x.2]] w fun e w' => e = .returned (.int .i64 (x.1 + x.2)) ∧ Below w.heap.size w w' := by
  have HB := Lib.hid (Below.refl w.heap.size w)
  have hw : IntKind.i64.wrap (x.1 + x.2) = x.1 + x.2 := IntWalk.i64_in _ (by unfold I64 at h; omega)
  obtain ⟨a, b⟩ := x
  dsimp only at *
  go_enter Try.func48, Try.ntmps48
  go_wp2
  go_ret
  exact ⟨rfl, HB.out.alloc (Nat.le_refl _) _⟩
set_option maxRecDepth 100000 in
set_option maxHeartbeats 2000000 in
theorem among_any (x : Int × Int) (f b : Int) (w : World) (h1 : I64 x.1) (h2 : I64 x.2) (h3 : I64 f) (h4 : I64 b) (hc : 1 ≤ x.2) : Calls Try.prog 28 #[.agg #[.int .i64 x.1, .int .i64 x.2], .int .i64 f, .int .i64 b] w fun e w' => e = .returned (.bool (amB x f b)) ∧ Below w.heap.size w w' := by
  have HB := Lib.hid (Below.refl w.heap.size w)
  have HR := Lib.hid (amB_iff x f b)
  obtain ⟨r, hr⟩ : ∃ r, amB x f b = r := ⟨_, rfl⟩
  rw [hr] at HR ⊢
  clear hr
  obtain ⟨s, c⟩ := x
  dsimp only at *
  unfold I64 at h1 h2 h3 h4
  by_cases g1 : s < f
  · obtain rfl : r = false := bool_false HR.out (fun h => by have := h.lo; dsimp at this; omega)
    clear HR
    go_enter Try.func28, Try.ntmps28
    go_wp2
    go_ret
    exact ⟨rfl, HB.out.alloc (Nat.le_refl _) _⟩
  · by_cases g2 : b ≤ s
    · obtain rfl : r = false := bool_false HR.out (fun h => by have := h.hi; dsimp at this; omega)
      clear HR
      go_enter Try.func28, Try.ntmps28
      go_wp2
      go_ret
      exact ⟨rfl, HB.out.alloc (Nat.le_refl _) _⟩
    · have e1 : IntKind.u64.wrap c = c := by rw [IntKind.wrap_u64]; omega
      have e2 : IntKind.u64.wrap (IntKind.u64.wrap b - IntKind.u64.wrap s) = b - s := by rw [IntKind.wrap_u64, IntKind.wrap_u64, IntKind.wrap_u64]; omega
      obtain rfl : r = decide (c ≤ b - s) := by
        by_cases g3 : c ≤ b - s
        · rw [decide_eq_true g3]; exact HR.out.2 ⟨by dsimp; omega, by dsimp; omega, g3⟩
        · rw [decide_eq_false g3]; exact bool_false HR.out (fun h => g3 h.fit)
      clear HR
      go_enter Try.func28, Try.ntmps28
      go_wp2
      go_ret
      exact ⟨rfl, HB.out.alloc (Nat.le_refl _) _⟩
end Go.Proofs.Ytfmnbabkdpiboaa
/- What filled answers. -/
namespace Go.Proofs.Ytfmnbabkdpiboaa
open Go.RowKit
open Fr (below_drewN)

theorem sumC_take (E : List (Int × Int)) (k : Nat) (h : k < E.length) : sumC (E.take (k + 1)) = sumC (E.take k) + E[k].2 := by
  rw [List.take_succ_eq_append_getElem h, sumC_append]; simp [sumC]
theorem sumC_split (E : List (Int × Int)) (k : Nat) (h : ∀ x ∈ E, 1 ≤ x.2) : sumC (E.take k) ≤ sumC E := by
  have e : sumC E = sumC (E.take k) + sumC (E.drop k) := by rw [← sumC_append, List.take_append_drop]
  have := sumC_len (E.drop k) fun x hx => h x (List.mem_of_mem_drop hx)
  omega
theorem SlE.shape {w : World} {v : Value} {L : List (Int × Int)} (h : SlE w v L) : ∃ ao c, v = .slice ao L.length c ∧ (∀ W, Below w.heap.size w W → ∀ k (hk : k < L.length), ∃ b off, ao = some ⟨b, off, none⟩ ∧ W.cell? ⟨b, off + k * 2, none⟩ = some (.int .i64 L[k].1) ∧ W.cell? ⟨b, off + k * 2 + 1, none⟩ = some (.int .i64 L[k].2)) := by
  obtain ⟨ao, c, rfl, hc, h⟩ := h
  refine ⟨ao, c, rfl, fun W hW k hk => ?_⟩
  rcases h with h | ⟨b, off, e, hlt, h⟩
  · subst h; simp at hk
  · exact ⟨b, off, e, (h.below hW hlt) k hk⟩
set_option maxRecDepth 100000 in
set_option maxHeartbeats 4000000 in
theorem filled_any (f : Fl) (ve : Value) (w : World) (hs : I64 f.size) (he : ∀ x ∈ f.ext, I64 x.1 ∧ I64 x.2) (h : SlE w ve f.ext) : Calls Try.prog 27 #[fileAgg f ve] w fun e w' => e = .returned (.bool (fdB f)) ∧ Below w.heap.size w w' := by
  have HB := Lib.hid (Below.refl w.heap.size w)
  have HR := Lib.hid (fdB_iff f)
  obtain ⟨r, hr⟩ : ∃ r, fdB f = r := ⟨_, rfl⟩
  rw [hr] at HR ⊢
  clear hr
  have HE := Lib.hid he; clear he
  obtain ⟨ao, c, rfl, hat⟩ := h.shape
  have HAt := Lib.hid hat; clear hat h
  obtain ⟨nm, sh, sz, E⟩ := f
  unfold fileAgg
  dsimp only at *
  obtain ⟨n, hn⟩ : ∃ n, E.length = n := ⟨_, rfl⟩
  have HN := Lib.hid hn
  rw [hn]
  unfold I64 at hs
  by_cases g1 : sz < 0
  · obtain rfl : r = false := bool_false HR.out (fun h => by have := h.size; dsimp at this; omega)
    clear HR hn
    go_enter Try.func27, Try.ntmps27
    go_wp2
    go_ret
    exact ⟨rfl, HB.out.alloc (Nat.le_refl _) _⟩
  · by_cases g2 : 16 < n
    · have z2 : (16 : Int) < (n : Int) := by omega
      obtain rfl : r = false := bool_false HR.out (fun h => by have := h.few; dsimp at this; omega)
      clear HR hn
      go_enter Try.func27, Try.ntmps27
      go_wp2
      go_ret
      exact ⟨rfl, HB.out.alloc (Nat.le_refl _) _⟩
    · have z2 : ¬ ((16 : Int) < (n : Int)) := by omega
      obtain ⟨m, hm, hm0, hm1⟩ : ∃ m : Int, need sz = m ∧ 0 ≤ m ∧ m ≤ 9223372036854775807 := ⟨need sz, rfl, by unfold need; omega, by unfold need; omega⟩
      have HM := Lib.hid hm
      have q1 : sz.tdiv 256 = sz / 256 := by rw [Int.tdiv_eq_ediv_of_nonneg (by omega)]
      have q2 : sz.tmod 256 = sz % 256 := by rw [Int.tmod_eq_emod_of_nonneg (by omega)]
      have HQ : Hid (∀ q : Int, (0 < sz % 256 → q = sz / 256 + 1) → (sz % 256 = 0 → q = sz / 256) → q = m) := by
        show ∀ q : Int, _ → _ → _
        intro q h1 h2; unfold need at hm; omega
      clear hm hn
      have w1 : IntKind.i64.wrap (sz / 256) = sz / 256 := IntWalk.i64_in _ (by omega)
      have w2 : IntKind.i64.wrap (sz / 256 + 1) = sz / 256 + 1 := IntWalk.i64_in _ (by omega)
      by_cases g3 : 0 < sz % 256
      · have hq := HQ.out (sz / 256 + 1) (fun _ => rfl) (by omega)
        go_enter Try.func27, Try.ntmps27
        go_wp2_with fail
        clear HQ hq w1 w2 q1 q2
        have HB1 : Hid (Below w.heap.size w (w.alloc (.cells #[.string nm, .bool sh, .int .i64 sz, .slice ao n c] 50))) := HB.out.alloc (Nat.le_refl _) _
        go_loopw [3, 27] (fun nv kv wr => ∃ k : Nat, k ≤ n ∧ kv = .int .i64 (k : Int) ∧ ∃ q : Int, nv = .int .i64 q ∧ 0 ≤ q ∧ q ≤ m ∧ Hid (q = m - sumC (E.take k)) ∧ Hid (∀ j (hj : j < E.length), j < k → 1 ≤ E[j].2) ∧ Hid (Below w.heap.size w wr)) (fun _ kv _ => n - (intOf kv).toNat)
        case atStart => exact ⟨0, Nat.zero_le _, rfl, m, rfl, hm0, Int.le_refl _, (show m = m - sumC [] by simp [sumC]), (show ∀ j (hj : j < E.length), j < 0 → 1 ≤ E[j].2 from fun j _ h => absurd h (Nat.not_lt_zero _)), HB1⟩
        case round =>
          clear HB1
          obtain ⟨k, hk, rfl, q, rfl, hq0, hqm, HQ, HK, HBr⟩ := hrel
          have hbr := HBr.out.size
          by_cases hlt : k < n
          · have hkz : (k : Int) < (n : Int) := by omega
            have hkE : k < E.length := by rw [HN.out]; exact hlt
            obtain ⟨bb, off, rfl, x0, x1⟩ := HAt.out _ HBr.out k hkE
            have hx := HE.out E[k] (List.getElem_mem hkE)
            have HT := Lib.hid (sumC_take E k hkE)
            have HM9 : Hid (E[k] ∈ E) := List.getElem_mem hkE
            have HK9 : Hid (1 ≤ E[k].2 → ∀ j (hj : j < E.length), j < k + 1 → 1 ≤ E[j].2) := fun h1 j hj h => by
              by_cases e : j = k
              · subst e; exact h1
              · exact HK.out j hj (by omega)
            unfold I64 at hx
            generalize E[k] = y at *
            clear hkE
            obtain ⟨xs, xc⟩ := y
            dsimp only at x0 x1 hx HT HK9
            by_cases h1 : xc < 1
            · obtain rfl : r = false := bool_false HR.out (fun h => by have := h.some _ HM9.out; dsimp at *; omega)
              clear HR HM HT HM9 HK9 HK HQ
              go_wp2_with fail
              go_ret
              exact ⟨rfl, HBr.out.alloc hbr _⟩
            · by_cases h2 : q < xc
              · obtain rfl : r = false := bool_false HR.out (fun h => by
                  have h3 := h.sum
                  have h4 := sumC_split E (k + 1) h.some
                  have := HT.out; have := HQ.out; have := HM.out; dsimp at *; omega)
                clear HR HM HT HM9 HK9 HK HQ
                go_wp2_with fail
                go_ret
                exact ⟨rfl, HBr.out.alloc hbr _⟩
              · have ww : IntKind.i64.wrap (q - xc) = q - xc := IntWalk.i64_in _ (by omega)
                have HQ2 : Hid (q - xc = m - sumC (E.take (k + 1))) := by have := HT.out; have := HQ.out; show _ = _; omega
                have HK2 : Hid (∀ j (hj : j < E.length), j < k + 1 → 1 ≤ E[j].2) := HK9.out (by omega)
                clear HT HM9 HK9 HK HQ
                go_wp2_with fail
                go_roundw
                case rel => exact ⟨k + 1, by omega, by go_num, q - xc, rfl, by omega, by omega, HQ2, HK2, HBr.out.alloc hbr _⟩
                case measure => simp [intOf]; omega
          · obtain rfl : k = n := by omega
            have hkz : ¬ (k : Int) < (k : Int) := by omega
            obtain rfl : r = decide (q = 0) := by
              have hfull : E.take k = E := List.take_of_length_le (by rw [HN.out]; exact Nat.le_refl _)
              have hq9 := HQ.out
              rw [hfull] at hq9
              by_cases h0 : q = 0
              · rw [decide_eq_true h0]
                refine HR.out.2 ⟨by dsimp; omega, by dsimp; rw [HN.out]; omega, fun x hx => ?_, by dsimp; rw [HM.out]; omega⟩
                obtain ⟨j, hj, rfl⟩ := List.getElem_of_mem hx
                exact HK.out j hj (by dsimp at hj; rw [HN.out] at hj; exact hj)
              · rw [decide_eq_false h0]
                exact bool_false HR.out (fun h => h0 (by have h3 := h.sum; dsimp at h3; rw [HM.out] at h3; omega))
            clear HR HM HK HQ
            go_wp2_with fail
            go_ret
            exact ⟨rfl, HBr.out⟩
      · have hq := HQ.out (sz / 256) (by omega) (fun _ => rfl)
        go_enter Try.func27, Try.ntmps27
        go_wp2_with fail
        clear HQ hq w1 w2 q1 q2
        have HB1 : Hid (Below w.heap.size w (w.alloc (.cells #[.string nm, .bool sh, .int .i64 sz, .slice ao n c] 50))) := HB.out.alloc (Nat.le_refl _) _
        go_loopw [3, 27] (fun nv kv wr => ∃ k : Nat, k ≤ n ∧ kv = .int .i64 (k : Int) ∧ ∃ q : Int, nv = .int .i64 q ∧ 0 ≤ q ∧ q ≤ m ∧ Hid (q = m - sumC (E.take k)) ∧ Hid (∀ j (hj : j < E.length), j < k → 1 ≤ E[j].2) ∧ Hid (Below w.heap.size w wr)) (fun _ kv _ => n - (intOf kv).toNat)
        case atStart => exact ⟨0, Nat.zero_le _, rfl, m, rfl, hm0, Int.le_refl _, (show m = m - sumC [] by simp [sumC]), (show ∀ j (hj : j < E.length), j < 0 → 1 ≤ E[j].2 from fun j _ h => absurd h (Nat.not_lt_zero _)), HB1⟩
        case round =>
          clear HB1
          obtain ⟨k, hk, rfl, q, rfl, hq0, hqm, HQ, HK, HBr⟩ := hrel
          have hbr := HBr.out.size
          by_cases hlt : k < n
          · have hkz : (k : Int) < (n : Int) := by omega
            have hkE : k < E.length := by rw [HN.out]; exact hlt
            obtain ⟨bb, off, rfl, x0, x1⟩ := HAt.out _ HBr.out k hkE
            have hx := HE.out E[k] (List.getElem_mem hkE)
            have HT := Lib.hid (sumC_take E k hkE)
            have HM9 : Hid (E[k] ∈ E) := List.getElem_mem hkE
            have HK9 : Hid (1 ≤ E[k].2 → ∀ j (hj : j < E.length), j < k + 1 → 1 ≤ E[j].2) := fun h1 j hj h => by
              by_cases e : j = k
              · subst e; exact h1
              · exact HK.out j hj (by omega)
            unfold I64 at hx
            generalize E[k] = y at *
            clear hkE
            obtain ⟨xs, xc⟩ := y
            dsimp only at x0 x1 hx HT HK9
            by_cases h1 : xc < 1
            · obtain rfl : r = false := bool_false HR.out (fun h => by have := h.some _ HM9.out; dsimp at *; omega)
              clear HR HM HT HM9 HK9 HK HQ
              go_wp2_with fail
              go_ret
              exact ⟨rfl, HBr.out.alloc hbr _⟩
            · by_cases h2 : q < xc
              · obtain rfl : r = false := bool_false HR.out (fun h => by
                  have h3 := h.sum
                  have h4 := sumC_split E (k + 1) h.some
                  have := HT.out; have := HQ.out; have := HM.out; dsimp at *; omega)
                clear HR HM HT HM9 HK9 HK HQ
                go_wp2_with fail
                go_ret
                exact ⟨rfl, HBr.out.alloc hbr _⟩
              · have ww : IntKind.i64.wrap (q - xc) = q - xc := IntWalk.i64_in _ (by omega)
                have HQ2 : Hid (q - xc = m - sumC (E.take (k + 1))) := by have := HT.out; have := HQ.out; show _ = _; omega
                have HK2 : Hid (∀ j (hj : j < E.length), j < k + 1 → 1 ≤ E[j].2) := HK9.out (by omega)
                clear HT HM9 HK9 HK HQ
                go_wp2_with fail
                go_roundw
                case rel => exact ⟨k + 1, by omega, by go_num, q - xc, rfl, by omega, by omega, HQ2, HK2, HBr.out.alloc hbr _⟩
                case measure => simp [intOf]; omega
          · obtain rfl : k = n := by omega
            have hkz : ¬ (k : Int) < (k : Int) := by omega
            obtain rfl : r = decide (q = 0) := by
              have hfull : E.take k = E := List.take_of_length_le (by rw [HN.out]; exact Nat.le_refl _)
              have hq9 := HQ.out
              rw [hfull] at hq9
              by_cases h0 : q = 0
              · rw [decide_eq_true h0]
                refine HR.out.2 ⟨by dsimp; omega, by dsimp; rw [HN.out]; omega, fun x hx => ?_, by dsimp; rw [HM.out]; omega⟩
                obtain ⟨j, hj, rfl⟩ := List.getElem_of_mem hx
                exact HK.out j hj (by dsimp at hj; rw [HN.out] at hj; exact hj)
              · rw [decide_eq_false h0]
                exact bool_false HR.out (fun h => h0 (by have h3 := h.sum; dsimp at h3; rw [HM.out] at h3; omega))
            clear HR HM HK HQ
            go_wp2_with fail
            go_ret
            exact ⟨rfl, HBr.out⟩
end Go.Proofs.Ytfmnbabkdpiboaa
/- A row of bytes of one's own that began as a text's bytes: what is there, cell by cell; a text appended to it. -/
namespace Go.Proofs.Ytfmnbabkdpiboaa
open Go.RowKit
open Fr (cellsB bs)

structure BRw (B : Nat) (w : World) (g cap : Nat) (l : List UInt8) : Prop where
  lo : B ≤ g
  lt : g < w.heap.size
  le : l.length ≤ cap
  max : cap ≤ maxLen
  byte : ∀ j (h : j < l.length), w.cell? ⟨g, j, none⟩ = some (.int .u8 (l[j].toNat : Int))
  cells : ∀ j, j < cap → (w.cell? ⟨g, j, none⟩).isSome = true
  fr : ∀ j, j < cap → w.frozen? ⟨g, j, none⟩ = false
theorem BRw.below {B : Nat} {w w' : World} {g cap : Nat} {l : List UInt8} (h : BRw B w g cap l) (hb : Below w.heap.size w w') : BRw B w' g cap l :=
  ⟨h.lo, Nat.lt_of_lt_of_le h.lt hb.size, h.le, h.max, fun j hj => (hb.cell (p := ⟨g, j, none⟩) h.lt).trans (h.byte j hj), fun j hj => by rw [hb.cell (p := ⟨g, j, none⟩) h.lt]; exact h.cells j hj, fun j hj => (World.frozen?_of_block (hb.block g h.lt)).trans (h.fr j hj)⟩
theorem BRw.new (w : World) (s : ByteArray) (hs : s.size ≤ 1000000) : ∃ cap W2, (convert 9 44 (.string s)).run Try.prog w = .ok (.slice (some ⟨w.heap.size, 0, none⟩) s.size cap) W2 ∧ BRw w.heap.size W2 w.heap.size cap s.data.toList ∧ Below w.heap.size w W2 := by
  have hlen : s.data.toList.length = s.size := by simp
  have hge : s.size ≤ grownCap w s.size 0 5 := grownCap_ge w _ _ _
  have hmx : grownCap w s.size 0 5 ≤ maxLen := grownCap_le_maxLen w s.size 0 5 (by unfold maxLen; omega)
  refine ⟨_, _, run_bytes_of_string w 9 44 5 s Try.underlying9 Try.underlying44 Try.underlying5, ?_, (Below.refl _ _).drew.alloc (Nat.le_refl _) _⟩
  generalize grownCap w s.size 0 5 = G at *
  have hsz : (bytesRow s G).size = G := by unfold bytesRow; simp; omega
  have hh : (w.drew.alloc (.cells (bytesRow s G) 5 ((bytesRow s G).size, (bytesRow s G).size + 1))).heap[w.heap.size]? = some (.cells (bytesRow s G) 5 ((bytesRow s G).size, (bytesRow s G).size + 1)) := heap_alloc_new w.drew _
  refine ⟨Nat.le_refl _, by simp, by omega, hmx, fun j hj => ?_, fun j hj => ?_, fun j hj => ?_⟩
  · rw [Fr.cell_at hh]
    have hj2 : j < s.data.size := by simpa using hj
    unfold bytesRow
    rw [Array.getElem?_append_left (by simpa using hj2), Array.getElem?_map, Array.getElem?_eq_getElem hj2]
    rfl
  · rw [Fr.cell_at hh, Array.getElem?_eq_getElem (by omega)]; rfl
  · simp only [World.frozen?, hh, Bool.and_eq_false_iff, decide_eq_false_iff_not]
    left; omega
theorem BRw.text {B : Nat} {w : World} {g cap : Nat} {l : List UInt8} (h : BRw B w g cap l) : (convert 44 9 (.slice (some ⟨g, 0, none⟩) l.length cap)).run Try.prog w = .ok (.string (bs l)) w :=
  run_convert_bytes_back w 44 9 5 ⟨g, 0, none⟩ cap l Try.underlying44 Try.underlying5 Try.underlying9 (fun j hj => by
    rw [add_at, Nat.zero_add]; exact h.byte j hj)
theorem size_setCells (b : Nat) : ∀ (vs : List Value) (o : Nat) (w : World), (w.setCells b o vs).heap.size = w.heap.size
  | [], _, _ => rfl
  | v :: r, o, w => by
    rw [World.setCells, size_setCells b r]
    exact Nat.le_antisymm ((Below.refl 0 w).setCell (p := ⟨b, o, none⟩) (Nat.zero_le _) v |>.size |> fun _ => by simp [World.setCell]) ((Below.refl 0 w).setCell (Nat.zero_le _) v).size
theorem below_setCells {B g : Nat} {w0 w : World} (hb : Below B w0 w) (hg : B ≤ g) (vs : List Value) (o : Nat) : Below B w0 (w.setCells g o vs) := by
  induction vs generalizing o w with
  | nil => exact hb
  | cons v r ih => exact ih (hb.setCell (p := ⟨g, o, none⟩) hg v) (o + 1)
theorem grown_setCells (g : Nat) (vs : List Value) (o : Nat) (w : World) : w.grownBy (w.setCells g o vs) (some g) := by
  induction vs generalizing o w with
  | nil => exact ⟨rfl, rfl, rfl, Nat.le_refl _, fun _ _ _ => rfl⟩
  | cons v r ih =>
    have h := ih (o + 1) (w.setCell ⟨g, o, none⟩ v)
    have hs : (w.setCell ⟨g, o, none⟩ v).heap.size = w.heap.size := by simp [World.setCell]
    refine ⟨h.os, h.tape, h.output, by have := h.size; rw [hs] at this; exact this, fun k hk hne => ?_⟩
    have hne' : k ≠ g := fun e => hne (by rw [e])
    show ((w.setCell ⟨g, o, none⟩ v).setCells g (o + 1) r).heap[k]? = _
    rw [h.block k (by rw [hs]; exact hk) hne]
    exact Below.heap_setCell _ _ _ _ (by intro e; exact hne' e)
theorem BRw.app {B : Nat} {w : World} {g cap : Nat} {l : List UInt8} (h : BRw B w g cap l) (hB : B ≤ w.heap.size) (ty : TypeId) (s : ByteArray) (hn : l.length + s.size ≤ 10000000) :
    ∃ g' cap' w', (Builtin.append_ #[44, 9] ty #[.slice (some ⟨g, 0, none⟩) l.length cap, .string s]).run Try.prog w = .ok (.slice (some ⟨g', 0, none⟩) (l.length + s.size) cap') w' ∧ BRw B w' g' cap' (l ++ s.data.toList) ∧ Below B w w' ∧ w.grownBy w' (some g) ∧ (g' = g ∨ w.heap.size ≤ g') := by
  obtain ⟨i0, hi, hz0, hz1, hz2⟩ := info_parts Try.infoB
  have hsl : s.data.toList.length = s.size := by simp
  have hcl : (Lib.strCells s).length = s.size := Lib.strCells_length s
  by_cases hroom : l.length + s.size ≤ cap
  · have hf := Lib.run_firstCells_string (P := Try.prog) w 1 s
    have hst := run_storeCells_cells (P := Try.prog) g l.length (Lib.strCells s) 0 w (fun j hj => h.cells _ (by omega)) (fun j hj => h.fr _ (by omega)) (Lib.strCells_oneCell s)
    refine ⟨g, cap, w.setCells g l.length (Lib.strCells s), ?_, ⟨h.lo, ?_, by simp; omega, h.max, fun j hj => ?_, fun j hj => ?_, fun j hj => ?_⟩, ?_⟩
    · rw [Nat.add_zero] at hst
      simp [Builtin.append_, run_underlying Try.underlying44, run_underlying Try.underlying9, sizeOf, typeInfo, hi, hz1, Builtin.lenOf, hroom, hf, Addr.add_lit, hst]
    · rw [size_setCells]; exact h.lt
    · have hj' : j < l.length + s.size := by simpa using hj
      by_cases hjl : j < l.length
      · rw [World.cell?_setCells_out g _ _ _ ⟨g, j, none⟩ (fun _ _ => .inl hjl), h.byte j hjl, List.getElem_append_left hjl]
      · have := World.cell?_setCells_in g (Lib.strCells s) l.length w (fun q hq => h.cells _ (by omega)) (j - l.length) (by omega)
        rw [show l.length + (j - l.length) = j by omega] at this
        rw [this, List.getElem_append_right (by omega)]
        rw [Option.some.injEq]
        unfold Lib.strCells
        simp
    · by_cases hin : l.length ≤ j ∧ j < l.length + s.size
      · have := World.cell?_setCells_in g (Lib.strCells s) l.length w (fun q hq => h.cells _ (by omega)) (j - l.length) (by omega)
        rw [show l.length + (j - l.length) = j by omega] at this
        rw [this]; rfl
      · rw [World.cell?_setCells_out g _ _ _ ⟨g, j, none⟩ (fun _ _ => by show j < _ ∨ _ ≤ j; omega)]
        exact h.cells j hj
    · rw [World.frozen?_setCells]; exact h.fr j hj
    · exact ⟨below_setCells (Below.refl _ _) h.lo _ _, grown_setCells _ _ _ _, .inl rfl⟩
  · have hr := Lib.run_append_grow_string (P := Try.prog) w 44 9 ty 5 i0 (.int .u8 0) Try.underlying44 Try.underlying9 hi hz0 ⟨g, 0, none⟩ l.length cap (cellsB l) (by rw [hz1, Fr.cellsB_length]; omega) (fun j v hj => by
      rw [add_at, Nat.zero_add]
      have hjl : j < l.length := by have := (List.getElem?_eq_some_iff.1 hj).1; rwa [Fr.cellsB_length] at this
      rw [h.byte j hjl]
      unfold cellsB at hj
      rw [List.getElem?_map, List.getElem?_eq_getElem hjl] at hj
      simpa using hj) s (by omega) (by omega) (by rw [hz2]; exact growslice_fits (by omega) (by omega))
    have hge : l.length + s.size ≤ grownCap w (l.length + s.size) cap 5 := grownCap_ge w _ _ _
    have hmx : grownCap w (l.length + s.size) cap 5 ≤ maxLen := grownCap_le_maxLen w _ cap 5 (by unfold maxLen; omega)
    generalize grownCap w (l.length + s.size) cap 5 = G at *
    obtain ⟨ROW, hROW⟩ : ∃ ROW : Array Value, ROW = (cellsB l).toArray ++ (Lib.strCells s).toArray ++ Builtin.zeroCells (Value.int .u8 0).cells (G - (l.length + s.size)) := ⟨_, rfl⟩
    rw [← hROW] at hr
    have hRs : ROW.size = G := by rw [hROW]; simp [Builtin.zeroCells, Value.cells, Fr.cellsB_length, hcl]; omega
    have hRc : ∀ j (hj : j < (l ++ s.data.toList).length), ROW[j]? = some (.int .u8 ((l ++ s.data.toList)[j].toNat : Int)) := fun j hj => by
      have e : (cellsB l).toArray ++ (Lib.strCells s).toArray = (cellsB (l ++ s.data.toList)).toArray := by
        rw [Fr.cellsB_append]; simp; rfl
      rw [hROW, e, Array.getElem?_append_left (by simpa [Fr.cellsB_length] using hj)]
      rw [List.getElem?_toArray]
      unfold cellsB
      rw [List.getElem?_map, List.getElem?_eq_getElem hj]
      rfl
    have hh : (w.drew.alloc (.cells ROW 5)).heap[w.heap.size]? = some (.cells ROW 5 (0, 0)) := heap_alloc_new w.drew _
    refine ⟨w.heap.size, G, _, hr, ⟨hB, by simp, by simp; omega, hmx, fun j hj => ?_, fun j hj => ?_, fun j hj => ?_⟩, ⟨(Below.refl _ _).drew.alloc hB _, ⟨rfl, rfl, rfl, by simp, fun k hk _ => ((Below.refl w.heap.size w).drew.alloc (Nat.le_refl _) _).block k hk⟩, .inr (Nat.le_refl _)⟩⟩
    · rw [Fr.cell_at hh]; exact hRc j hj
    · rw [Fr.cell_at hh, Array.getElem?_eq_getElem (by omega)]; rfl
    · simp only [World.frozen?, hh]; simp
end Go.Proofs.Ytfmnbabkdpiboaa
/- The document's file: has one as many blocks as it needs, all among the data blocks? -/
namespace Go.Proofs.Ytfmnbabkdpiboaa
open Go.RowKit
open Fr (below_drewN)

/-- As the document asks it, for the blocks 0 to 4095. -/
structure FilledR (f : Fl) : Prop where
  size : 0 ≤ f.size ∧ f.size ≤ 2147483647
  few : f.ext.length ≤ 16
  some : ∀ x ∈ f.ext, 1 ≤ x.2 ∧ Among x 0 4096
  sum : sumC f.ext = need f.size
def frB (f : Fl) : Bool := decide (0 ≤ f.size) && decide (f.size ≤ 2147483647) && decide (f.ext.length ≤ 16) && f.ext.all (fun x => decide (1 ≤ x.2) && amB x 0 4096) && decide (sumC f.ext = need f.size)
theorem frB_iff (f : Fl) : frB f = true ↔ FilledR f := by
  unfold frB
  simp only [Bool.and_eq_true, decide_eq_true_eq, List.all_eq_true, amB_iff]
  exact ⟨fun ⟨⟨⟨⟨h1, h2⟩, h3⟩, h4⟩, h5⟩ => ⟨⟨h1, h2⟩, h3, h4, h5⟩, fun h => ⟨⟨⟨⟨h.size.1, h.size.2⟩, h.few⟩, h.some⟩, h.sum⟩⟩
set_option maxRecDepth 100000 in
set_option maxHeartbeats 8000000 in
theorem rfile_any (f : Fl) (ve : Value) (w : World) (hs : I64 f.size) (he : ∀ x ∈ f.ext, I64 x.1 ∧ I64 x.2) (h : SlE w ve f.ext) : Calls Try.prog 31 #[fileAgg f ve, .int .i64 0, .int .i64 4096] w fun e w' => e = .returned (.bool (frB f)) ∧ Below w.heap.size w w' := by
  have HR := Lib.hid (frB_iff f)
  obtain ⟨r, hr⟩ : ∃ r, frB f = r := ⟨_, rfl⟩
  rw [hr] at HR ⊢
  clear hr
  have HE := Lib.hid he; clear he
  obtain ⟨ao, c, rfl, hat⟩ := h.shape
  have HAt := Lib.hid hat; clear hat h
  obtain ⟨nm, sh, sz, E⟩ := f
  unfold fileAgg
  dsimp only at *
  obtain ⟨n, hn⟩ : ∃ n, E.length = n := ⟨_, rfl⟩
  have HN := Lib.hid hn
  rw [hn]
  unfold I64 at hs
  have HBX : Hid (∀ W, Below (w.heap.size + 1) (w.alloc (.cells #[.string nm, .bool sh, .int .i64 sz, .slice ao n c] 58)) W → W.cell? ⟨w.heap.size, 2, none⟩ = some (.int .i64 sz) ∧ W.cell? ⟨w.heap.size, 3, none⟩ = some (.slice ao n c)) := fun W hW => by
    have e := heap_alloc_new w (.cells #[.string nm, .bool sh, .int .i64 sz, .slice ao n c] 58)
    exact ⟨(hW.cell (p := ⟨w.heap.size, 2, none⟩) (by simp)).trans (Fr.cell_at e), (hW.cell (p := ⟨w.heap.size, 3, none⟩) (by simp)).trans (Fr.cell_at e)⟩
  have HB0 : Hid (Below w.heap.size w (w.alloc (.cells #[.string nm, .bool sh, .int .i64 sz, .slice ao n c] 58))) := (Below.refl _ _).alloc (Nat.le_refl _) _
  clear hn
  by_cases g1 : sz < 0
  · obtain rfl : r = false := bool_false HR.out (fun h => by have := h.size; dsimp at this; omega)
    clear HR
    go_enter Try.func31, Try.ntmps31
    go_wp2_with fail
    go_ret
    exact ⟨rfl, HB0.out⟩
  by_cases g3 : 2147483647 < sz
  · obtain rfl : r = false := bool_false HR.out (fun h => by have := h.size; dsimp at this; omega)
    clear HR
    go_enter Try.func31, Try.ntmps31
    go_wp2_with fail
    go_ret
    exact ⟨rfl, HB0.out⟩
  by_cases g2 : 16 < n
  · have z2 : (16 : Int) < (n : Int) := by omega
    obtain rfl : r = false := bool_false HR.out (fun h => by have h8 := h.few; have h9 := HN.out; dsimp only at h8; omega)
    clear HR
    go_enter Try.func31, Try.ntmps31
    go_wp2_with fail
    go_ret
    exact ⟨rfl, HB0.out⟩
  have z2 : ¬ (16 : Int) < (n : Int) := by omega
  obtain ⟨m, hm, hm0, hm1⟩ : ∃ m : Int, need sz = m ∧ 0 ≤ m ∧ m ≤ 2147483647 := ⟨need sz, rfl, by unfold need; omega, by unfold need; omega⟩
  have HM := Lib.hid hm
  have q1 : sz.tdiv 256 = sz / 256 := by rw [Int.tdiv_eq_ediv_of_nonneg (by omega)]
  have q2 : sz.tmod 256 = sz % 256 := by rw [Int.tmod_eq_emod_of_nonneg (by omega)]
  have HQ : Hid ((0 < sz % 256 → sz / 256 + 1 = m) ∧ (¬ 0 < sz % 256 → sz / 256 = m)) := by
    show _ ∧ _
    unfold need at hm; omega
  have HRr : Hid (r = true → ∀ j (hj : j < E.length), 1 ≤ (E[j]).2 ∧ Among E[j] 0 4096) := fun h j hj => (HR.out.1 h).some _ (List.getElem_mem hj)
  have HRs : Hid ((∀ x ∈ E, 1 ≤ x.2 ∧ Among x 0 4096) → r = decide (sumC E = m)) := fun h => by
    by_cases e : sumC E = m
    · rw [decide_eq_true e]; exact HR.out.2 ⟨⟨by first | omega | (dsimp only; omega), by first | omega | (dsimp only; omega)⟩, by have h9 := HN.out; first | omega | (dsimp only; omega), h, by rw [← HM.out] at e; exact e⟩
    · rw [decide_eq_false e]; exact bool_false HR.out (fun h2 => e (by rw [← HM.out]; exact h2.sum))
  clear hm HR
  go_enter Try.func31, Try.ntmps31
  go_wp2_with fail
  go_loopw [7, 8] (fun sv jv wr => ∃ (j : Nat) (t : Int), j ≤ n ∧ jv = .int .i64 (j : Int) ∧ sv = .int .i64 t ∧ 0 ≤ t ∧ t ≤ 4096 * (j : Int) ∧ Hid (t = sumC (E.take j)) ∧ Hid (∀ x ∈ E.take j, 1 ≤ x.2 ∧ Among x 0 4096) ∧ Hid (Below (w.heap.size + 1) (w.alloc (.cells #[.string nm, .bool sh, .int .i64 sz, .slice ao n c] 58)) wr)) (fun _ jv _ => n - (intOf jv).toNat)
  case atStart => exact ⟨0, 0, Nat.zero_le _, rfl, rfl, by omega, by omega, rfl, (show ∀ x ∈ E.take 0, 1 ≤ x.2 ∧ Among x 0 4096 from fun x hx => by simp at hx), Below.refl _ _⟩
  case round =>
    obtain ⟨j, t, hj, rfl, rfl, ht0, ht1, HT, HS, HBr⟩ := hrel
    obtain ⟨x2, x3⟩ := HBX.out _ HBr.out
    have HBw : Hid (Below w.heap.size w wr) := HB0.out.trans (HBr.out.mono (by omega))
    have hbs : w.heap.size + 1 ≤ wr.heap.size := by have := HBr.out.size; simpa using this
    by_cases hjn : j < n
    · have hjz : (j : Int) < (n : Int) := by omega
      have hjE : j < E.length := by rw [HN.out]; exact hjn
      obtain ⟨be, oe, rfl, y0, y1⟩ := HAt.out _ HBw.out j hjE
      have HTj := Lib.hid (sumC_take E j hjE)
      have HTk := Lib.hid (List.take_succ_eq_append_getElem hjE)
      have HRx : Hid (¬ (1 ≤ (E[j]).2 ∧ Among E[j] 0 4096) → r = false) := fun h => by
        cases r with
        | false => rfl
        | true => exact absurd (HRr.out rfl j hjE) h
      obtain ⟨k1, k2⟩ := HE.out _ (List.getElem_mem hjE)
      generalize E[j] = x at *
      clear hjE
      obtain ⟨xs, xc⟩ := x
      dsimp only at y0 y1 HTj HTk HRx k1 k2
      unfold I64 at k1 k2
      have hbx2 : Hid (∀ W, Below (wr.heap.size + 1) (wr.alloc (.cells #[.int .i64 xs, .int .i64 xc] 52)) W → W.cell? ⟨wr.heap.size, 0, none⟩ = some (.int .i64 xs) ∧ W.cell? ⟨wr.heap.size, 1, none⟩ = some (.int .i64 xc)) := fun W hW => by
        have e := heap_alloc_new wr (.cells #[.int .i64 xs, .int .i64 xc] 52)
        exact ⟨(hW.cell (p := ⟨wr.heap.size, 0, none⟩) (by simp)).trans (Fr.cell_at e), (hW.cell (p := ⟨wr.heap.size, 1, none⟩) (by simp)).trans (Fr.cell_at e)⟩
      have HBa : Hid (Below (w.heap.size + 1) (w.alloc (.cells #[.string nm, .bool sh, .int .i64 sz, .slice (some ⟨be, oe, none⟩) n c] 58)) (wr.alloc (.cells #[.int .i64 xs, .int .i64 xc] 52))) := HBr.out.alloc (by simpa using hbs) _
      have HBwa : Hid (Below w.heap.size w (wr.alloc (.cells #[.int .i64 xs, .int .i64 xc] 52))) := HBw.out.alloc (by omega) _
      obtain ⟨g0, g1⟩ := hbx2.out _ (Below.refl _ _)
      by_cases c1 : xc < 1
      · obtain rfl := HRx.out (fun h => by have := h.1; omega)
        clear HRx HRr HRs
        go_wp2_with fail
        go_ret
        exact ⟨rfl, HBwa.out⟩
      by_cases c2 : xs < 0
      · obtain rfl := HRx.out (fun h => by have := h.2.lo; dsimp only at this; omega)
        clear HRx HRr HRs
        go_wp2_with fail
        go_ret
        exact ⟨rfl, HBwa.out⟩
      by_cases c3 : 4096 ≤ xs
      · obtain rfl := HRx.out (fun h => by have := h.2.hi; dsimp only at this; omega)
        clear HRx HRr HRs
        go_wp2_with fail
        go_ret
        exact ⟨rfl, HBwa.out⟩
      by_cases c4 : 4096 - xs < xc
      · obtain rfl := HRx.out (fun h => by have := h.2.fit; dsimp only at this; omega)
        clear HRx HRr HRs
        go_wp2_with fail
        go_ret
        exact ⟨rfl, HBwa.out⟩
      have HS2 : Hid (∀ y ∈ E.take (j + 1), 1 ≤ y.2 ∧ Among y 0 4096) := fun y hy => by
        rw [HTk.out] at hy
        rcases List.mem_append.1 hy with hy | hy
        · exact HS.out y hy
        · rw [List.mem_singleton.1 hy]; exact ⟨by dsimp only; omega, by dsimp only; omega, by dsimp only; omega, by dsimp only; omega⟩
      have HT2 : Hid (t + xc = sumC (E.take (j + 1))) := by show _ = _; rw [HTj.out, HT.out]
      clear HRx HTj HTk HT HS
      go_wp2_with fail
      go_roundw
      case rel => exact ⟨j + 1, t + xc, by omega, by go_num, rfl, by omega, by omega, HT2, HS2, HBa⟩
      case measure => simp [intOf]; omega
    · obtain rfl : j = n := by omega
      have hjz : ¬ (j : Int) < (j : Int) := by omega
      have hTE : E.take j = E := List.take_of_length_le (by rw [HN.out]; exact Nat.le_refl _)
      have hS := HS.out; have hT := HT.out
      rw [hTE] at hS hT
      have hR := HRs.out hS
      rw [← hT] at hR
      have HRR := Lib.hid hR
      obtain ⟨hq1, hq2⟩ := HQ.out
      clear hS hT hR HRs HRr HS HT hTE
      by_cases hq : 0 < sz % 256
      · have hqq := hq1 hq
        by_cases he : t = m
        · have he2 : (t == m) = true := beq_iff_eq.2 he
          rw [decide_eq_true he] at HRR
          obtain rfl := HRR.out
          go_wp2_with fail
          go_ret
          exact ⟨by simp [he, hqq], HBw.out⟩
        · have he2 : (t == m) = false := beq_eq_false_iff_ne.2 he
          rw [decide_eq_false he] at HRR
          obtain rfl := HRR.out
          go_wp2_with fail
          go_ret
          exact ⟨by simp [he, hqq], HBw.out⟩
      · have hqq := hq2 (by omega)
        by_cases he : t = m
        · have he2 : (t == m) = true := beq_iff_eq.2 he
          rw [decide_eq_true he] at HRR
          obtain rfl := HRR.out
          go_wp2_with fail
          go_ret
          exact ⟨by simp [he, hqq], HBw.out⟩
        · have he2 : (t == m) = false := beq_eq_false_iff_ne.2 he
          rw [decide_eq_false he] at HRR
          obtain rfl := HRR.out
          go_wp2_with fail
          go_ret
          exact ⟨by simp [he, hqq], HBw.out⟩
end Go.Proofs.Ytfmnbabkdpiboaa
