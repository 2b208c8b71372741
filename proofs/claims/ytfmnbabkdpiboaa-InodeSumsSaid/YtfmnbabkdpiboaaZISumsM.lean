/- A directory's bytes with one bit of the last byte that says something changed are no directory's: in plain lists. -/
import Derived.Test.YtfmnbabkdpiboaaZIUnp
import Derived.Test.YtfmnbabkdpiboaaZWFix

namespace Go.Proofs.Ytfmnbabkdpiboaa
open Go.RowKit
open Fr (varL rdV textL rdT fixL unfix crcL rdV_varL rdV_some rdT_textL rdT_some varL_len crcL_lt)

namespace Sm
theorem set_parts (l : List UInt8) (i : Nat) (c : UInt8) (h : i < l.length) : l.set i c = l.take i ++ c :: l.drop (i + 1) := List.set_eq_take_append_cons_drop .. |>.trans (if_pos h)
theorem parts (l : List UInt8) (i : Nat) (h : i < l.length) : l = l.take i ++ l[i] :: l.drop (i + 1) := by
  rw [← List.drop_eq_getElem_cons h, List.take_append_drop]
theorem crc_one (X Y : List UInt8) (x y : UInt8) (h : crcL (X ++ x :: Y) = crcL (X ++ y :: Y)) : x = y := by
  have hl : (X ++ x :: Y).length = (X ++ y :: Y).length := by simp
  have hi : X.length < (X ++ y :: Y).length := by simp
  have e0 : (X ++ y :: Y)[X.length] = y := by simp
  have e1 : (X ++ y :: Y).set X.length ((X ++ y :: Y)[X.length] ^^^ (y ^^^ x)) = X ++ x :: Y := by
    rw [e0, ← UInt8.xor_assoc, UInt8.xor_self, UInt8.zero_xor]
    rw [List.set_append_right _ _ (Nat.le_refl _), Nat.sub_self, List.set_cons_zero]
  have e2 := Fr.leN_set (X ++ y :: Y) X.length hi (y ^^^ x)
  rw [e1] at e2
  have hb := Fr.byte_lt (y ^^^ x)
  have e3 := Fr.crc_burst (X ++ y :: Y) (X ++ x :: Y) hl (8 * X.length) (y ^^^ x).toNat (by omega) (by omega) e2 h
  have := List.append_cancel_left e3
  exact (List.cons.inj this).1
theorem crc_set (l : List UInt8) (i : Nat) (c : UInt8) (h : i < l.length) (hc : crcL (l.set i c) = crcL l) : c = l[i] := by
  rw [set_parts l i c h] at hc
  exact crc_one _ _ _ _ (hc.trans (congrArg crcL (parts l i h)))
theorem fix_inj {a b : Nat} (ha : a < 4294967296) (hb : b < 4294967296) (h : fixL a = fixL b) : a = b := by
  have e1 := Fr.unfix_fixL a ha
  have e2 := Fr.unfix_fixL b hb
  unfold fixL at h
  simp only [List.cons.injEq, and_true] at h
  obtain ⟨h1, h2, h3, h4⟩ := h
  rw [h1, h2, h3, h4] at e1
  omega
/-- The last byte of a number that is not 0. -/
theorem varL_last (v : Nat) (h : 0 < v) (hv : v < 18446744073709551616) : ∃ (A : List UInt8) (c : UInt8), varL v = A ++ [c] ∧ c ≠ 0 := by
  induction v using Nat.strongRecOn with
  | ind v ih =>
    by_cases h2 : v < 128
    · refine ⟨[], UInt8.ofNat v, by rw [Fr.varL_lo v h2]; rfl, fun e => ?_⟩
      have := congrArg UInt8.toNat e
      rw [Fr.toNat_of v (by omega)] at this
      simp at this; omega
    · obtain ⟨A, c, e, hc⟩ := ih (v / 128) (by omega) (by omega) (by omega)
      exact ⟨UInt8.ofNat (v % 128 + 128) :: A, c, by rw [Fr.varL_hi v (by omega), e]; rfl, hc⟩
end Sm

/-- The files before the last are read whatever stands behind them. -/
theorem pFiles_pre (M : List Fl) (s r : List UInt8) (L' : List Fl) (h : ∀ f ∈ M, Small f) (hp : pFiles (M.length + 1) (M.flatMap fileL ++ s) = some (L', r)) : ∃ f', L' = M ++ [f'] ∧ pFile s = some (f', r) := by
  induction M generalizing L' with
  | nil =>
    simp only [List.length_nil, List.flatMap_nil, List.nil_append] at hp
    rw [pFiles] at hp
    simp only [Option.bind_eq_bind] at hp
    cases e : pFile s with
    | none => rw [e] at hp; cases hp
    | some p =>
      obtain ⟨f', r'⟩ := p
      rw [e] at hp
      simp only [Option.bind_some, pFiles, Option.pure_def, Option.some.injEq, Prod.mk.injEq] at hp
      obtain ⟨rfl, rfl⟩ := hp
      exact ⟨f', rfl, rfl⟩
  | cons g M ih =>
    rw [List.flatMap_cons, List.length_cons, pFiles, List.append_assoc, pFile_back g _ (h g (by simp))] at hp
    simp only [Option.bind_eq_bind, Option.bind_some] at hp
    cases e : pFiles (M.length + 1) (M.flatMap fileL ++ s) with
    | none => rw [e] at hp; cases hp
    | some p =>
      obtain ⟨K, r'⟩ := p
      rw [e] at hp
      simp only [Option.bind_some, Option.pure_def, Option.some.injEq, Prod.mk.injEq] at hp
      obtain ⟨rfl, rfl⟩ := hp
      obtain ⟨f', rfl, h2⟩ := ih K (fun y hy => h y (by simp [hy])) e
      exact ⟨f', rfl, h2⟩
/-- So are the extents before the last Count. -/
theorem pExts_pre (E : List (Int × Int)) (a : Int) (s r : List UInt8) (F : List (Int × Int)) (h : ∀ x ∈ E, 0 ≤ x.1 ∧ x.1 ≤ 4096 ∧ 0 ≤ x.2 ∧ x.2 ≤ 4096) (ha : 0 ≤ a ∧ a ≤ 4096) (hp : pExts (E.length + 1) (E.flatMap extL ++ (varL a.toNat ++ s)) = some (F, r)) : ∃ c, F = E ++ [(a, c)] := by
  induction E generalizing F with
  | nil =>
    simp only [List.length_nil, List.flatMap_nil, List.nil_append] at hp
    rw [pExts, pNum_varL 4096 _ _ (by omega) (by omega)] at hp
    simp only [Option.bind_eq_bind, Option.bind_some] at hp
    cases e : pNum 4096 s with
    | none => rw [e] at hp; cases hp
    | some p =>
      obtain ⟨c, r'⟩ := p
      rw [e] at hp
      simp only [Option.bind_some, pExts, Option.pure_def, Option.some.injEq, Prod.mk.injEq] at hp
      obtain ⟨rfl, rfl⟩ := hp
      have : ((a.toNat : Nat) : Int) = a := by omega
      exact ⟨c, by rw [this]; rfl⟩
  | cons x E ih =>
    obtain ⟨h1, h2, h3, h4⟩ := h x (by simp)
    rw [List.flatMap_cons, extL, List.length_cons, pExts, List.append_assoc, List.append_assoc, pNum_varL 4096 _ _ (by omega) (by omega)] at hp
    simp only [Option.bind_eq_bind, Option.bind_some] at hp
    rw [pNum_varL 4096 _ _ (by omega) (by omega)] at hp
    simp only [Option.bind_some] at hp
    cases e : pExts (E.length + 1) (E.flatMap extL ++ (varL a.toNat ++ s)) with
    | none => rw [e] at hp; cases hp
    | some p =>
      obtain ⟨K, r'⟩ := p
      rw [e] at hp
      simp only [Option.bind_some, Option.pure_def, Option.some.injEq, Prod.mk.injEq] at hp
      obtain ⟨rfl, rfl⟩ := hp
      obtain ⟨c, rfl⟩ := ih K (fun y hy => h y (by simp [hy])) e
      refine ⟨c, ?_⟩
      have e1 : ((x.1.toNat : Nat) : Int) = x.1 := by omega
      have e2 : ((x.2.toNat : Nat) : Int) = x.2 := by omega
      rw [e1, e2]
      rfl
/-- A file with extents, all but its last Count: what it must be. -/
theorem pFile_pre (f f' : Fl) (E : List (Int × Int)) (a c : Int) (s r : List UInt8) (h : Small f) (he : f.ext = E ++ [(a, c)]) (hf : Filled f) (hf' : Filled f')
    (hp : pFile (textL f.name.data.toList ++ (varL (if f.shut then 1 else 0) ++ (varL f.size.toNat ++ (varL f.ext.length ++ (E.flatMap extL ++ (varL a.toNat ++ s))))) ) = some (f', r)) : f' = f := by
  have h0 := h.name
  obtain ⟨h1, h2⟩ := h.size
  have hl : f.name.data.toList.length = f.name.size := by simp
  unfold pFile at hp
  rw [rdT_textL _ _ (by rw [hl]; omega)] at hp
  simp only [Option.bind_eq_bind, Option.bind_some] at hp
  rw [pNum_varL 1 _ _ (by split <;> omega) (by omega)] at hp
  simp only [Option.bind_some] at hp
  rw [pNum_varL 2147483647 _ _ (by omega) (by omega)] at hp
  simp only [Option.bind_some] at hp
  rw [pNum_varL 16 _ _ h.few (by omega)] at hp
  simp only [Option.bind_some] at hp
  have hn : f.ext.length = E.length + 1 := by rw [he]; simp
  have hE : ∀ x ∈ E, 0 ≤ x.1 ∧ x.1 ≤ 4096 ∧ 0 ≤ x.2 ∧ x.2 ≤ 4096 := fun x hx => h.ext x (by rw [he]; simp [hx])
  have hA : 0 ≤ a ∧ a ≤ 4096 := by have := h.ext (a, c) (by rw [he]; simp); dsimp at this; omega
  rw [hn] at hp
  cases e : pExts (E.length + 1) (E.flatMap extL ++ (varL a.toNat ++ s)) with
  | none => rw [e] at hp; cases hp
  | some p =>
    obtain ⟨F, r'⟩ := p
    rw [e] at hp
    simp only [Option.bind_some, Option.pure_def, Option.some.injEq, Prod.mk.injEq] at hp
    obtain ⟨rfl, rfl⟩ := hp
    obtain ⟨c', rfl⟩ := pExts_pre E a s r' _ hE hA e
    have e1 : ((if f.shut = true then 1 else 0 : Nat) == 1) = f.shut := by cases f.shut <;> rfl
    have e2 : ((f.size.toNat : Nat) : Int) = f.size := by omega
    have e3 : (⟨f.name.data.toList.toArray⟩ : ByteArray) = f.name := by simp
    have hs := hf.sum
    have hs' := hf'.sum
    dsimp only at hs'
    rw [he] at hs
    rw [sumC_append, sumC_cons] at hs hs'
    rw [e2] at hs'
    dsimp only at hs hs'
    have ec : c' = c := by omega
    rw [e1, e2, e3, ec, ← he]
/-- A file without extents, its letters or its mark changed: it has as many bytes. -/
theorem pFile_none (nm : List UInt8) (sh : UInt8) (T r : List UInt8) (f' : Fl) (hn : nm.length ≤ 24) (hp : pFile (varL nm.length ++ nm ++ (sh :: 0 :: 0 :: T)) = some (f', r)) : (fileL f').length = nm.length + 4 := by
  have hT := rdT_textL nm (sh :: 0 :: 0 :: T) (by omega)
  unfold textL at hT
  have z0 : varL 0 = [0] := by rw [Fr.varL_lo 0 (by omega)]; rfl
  unfold pFile at hp
  rw [hT] at hp
  simp only [Option.bind_eq_bind, Option.bind_some] at hp
  cases e : pNum 1 (sh :: 0 :: 0 :: T) with
  | none => rw [e] at hp; cases hp
  | some p =>
    obtain ⟨v, l2⟩ := p
    obtain ⟨g1, g2⟩ := pNum_some e
    rw [Fr.varL_lo v (by omega)] at g1
    simp only [List.cons_append, List.nil_append, List.cons.injEq] at g1
    obtain ⟨rfl, rfl⟩ := g1
    rw [e] at hp
    simp only [Option.bind_some] at hp
    have q1 := pNum_varL 2147483647 0 (0 :: T) (by omega) (by omega)
    have q2 := pNum_varL 16 0 T (by omega) (by omega)
    rw [z0] at q1 q2
    simp only [List.cons_append, List.nil_append] at q1 q2
    rw [q1] at hp
    simp only [Option.bind_some] at hp
    rw [q2] at hp
    simp only [Option.bind_some, pExts, Option.pure_def, Option.some.injEq, Prod.mk.injEq] at hp
    obtain ⟨rfl, rfl⟩ := hp
    unfold fileL textL
    have ev : (varL (if (v == 1) = true then 1 else 0)).length = 1 := by
      split
      · rw [Fr.varL_lo 1 (by omega)]; rfl
      · rw [Fr.varL_lo 0 (by omega)]; rfl
    have en : (varL nm.length).length = 1 := by rw [Fr.varL_lo _ (by omega)]; rfl
    simp only [List.length_append, ev, en, Int.toNat_natCast, z0, List.length_nil, List.flatMap_nil, List.length_cons]
    omega
/-- What the same bytes are read as. -/
theorem packed_drop (L : List Fl) : ∃ X, (packed L).drop 4 = varL L.length ++ L.flatMap fileL ++ X ∧ packed L = dirL L ++ X ∧ X = fixL (crcL (dirL L)) ++ List.replicate (3072 - (packL L).length) 0 := by
  have e : packed L = dirL L ++ (fixL (crcL (dirL L)) ++ List.replicate (3072 - (packL L).length) 0) := by unfold packed packL; rw [List.append_assoc]
  exact ⟨_, by rw [e]; unfold dirL; simp, e, rfl⟩
theorem dirL_len (L : List Fl) (h : L.length ≤ 64) : (dirL L).length = 5 + (L.flatMap fileL).length := by
  unfold dirL
  rw [Fr.varL_lo _ (by omega)]
  simp only [List.length_append, List.length_cons, List.length_nil]
/-- Two directories of the same length whose bytes part in one place. -/
theorem sums_len (L L' : List Fl) (k : Nat) (y : UInt8) (hk : k < (dirL L).length) (hy : y ≠ (packed L).getD k 0) (hl : (dirL L').length = (dirL L).length) (e : packed L' = (packed L).set k y) : False := by
  obtain ⟨X, _, e1, e2⟩ := packed_drop L
  obtain ⟨X', _, e1', e2'⟩ := packed_drop L'
  rw [e1, e1', List.set_append_left _ _ hk] at e
  obtain ⟨g1, g2⟩ := List.append_inj e (by rw [List.length_set]; exact hl)
  rw [e2, e2'] at g2
  obtain ⟨g3, _⟩ := List.append_inj g2 rfl
  have g4 := Sm.fix_inj (crcL_lt _) (crcL_lt _) g3
  rw [g1] at g4
  have g5 := Sm.crc_set _ _ _ hk g4
  apply hy
  rw [e1, Fr.getD_left _ _ _ hk, g5]
  simp [List.getD, hk]
theorem sums_math (L : List Fl) (h : RightP L 0 4096) (hl : (packL L).length ≤ 3072) (k : Nat) (hk : k < 3072) (h8 : 8 ≤ k) (h0 : (packed L).getD k 0 ≠ 0) (hz : ∀ i, k < i → (packed L).getD i 0 = 0) (y : UInt8) (hy : y ≠ (packed L).getD k 0) : (unpR ((packed L).set k y)).2 ≠ 0 := by
  intro h'
  obtain ⟨r1, r2, r3⟩ := unpR_ok h'
  generalize (unpR ((packed L).set k y)).1 = L' at r1 r2 r3
  have hpl := packed_len L hl
  have hsame : L' ≠ L := by
    rintro rfl
    apply hy
    conv => rhs; rw [r3]
    simp [List.getD, hpl, hk]
  obtain ⟨X, d1, d2, d3⟩ := packed_drop L
  obtain ⟨X', d1', d2', d3'⟩ := packed_drop L'
  have hb' := pDir_back L' X' r1.1 r1.small
  rw [← d1', r3] at hb'
  by_cases hkd : (dirL L).length ≤ k
  · rw [d2, List.set_append_right _ _ hkd] at hb'
    have e4 : ∀ Y, (dirL L ++ Y).drop 4 = varL L.length ++ L.flatMap fileL ++ Y := fun Y => by unfold dirL; simp
    rw [e4, pDir_back L _ h.1 h.small] at hb'
    simp only [Option.some.injEq, Prod.mk.injEq] at hb'
    exact hsame hb'.1.symm
  · have hkd : k < (dirL L).length := by omega
    have hdl := dirL_len L h.1
    rcases List.eq_nil_or_concat L with rfl | ⟨M, f, rfl⟩
    · rw [hdl] at hkd; simp at hkd; omega
    · rw [List.concat_eq_append] at *
      have hM : ∀ g ∈ M, Small g := fun g hg => h.small g (by simp [hg])
      have hf := h.small f (by simp)
      have hF := h.2.filled f (by simp)
      have hn := h.2.names f (by simp)
      unfold okName at hn
      simp only [Bool.and_eq_true, decide_eq_true_eq, List.all_eq_true] at hn
      obtain ⟨⟨hn1, hn2⟩, hn3⟩ := hn
      have hML : M.length + 1 ≤ 64 := by have := h.1; simpa using this
      have hnl : f.name.data.toList.length = f.name.size := by simp
      -- the bytes before the last file
      have hpre : ∃ P : List UInt8, P.length = 5 + (M.flatMap fileL).length ∧ packed (M ++ [f]) = P ++ (fileL f ++ X) ∧ ∀ Y, (P ++ Y).drop 4 = varL (M.length + 1) ++ (M.flatMap fileL ++ Y) := by
        refine ⟨[67, 68, 88, 73] ++ varL (M.length + 1) ++ M.flatMap fileL, ?_, ?_, fun Y => by simp⟩
        · rw [Fr.varL_lo _ (by omega)]; simp only [List.length_append, List.length_cons, List.length_nil]
        · rw [d2]; unfold dirL; simp
      obtain ⟨P, hP, hPe, hPd⟩ := hpre
      -- the name's last letter
      have hkm : P.length + f.name.size ≤ k := by
        apply Decidable.byContradiction
        intro hh
        have hzl := hz (P.length + f.name.size) (by omega)
        rw [hPe, Fr.getD_right] at hzl
        have hv : varL f.name.data.toList.length = [UInt8.ofNat f.name.size] := by rw [hnl, Fr.varL_lo _ (by omega)]
        have hlast : (fileL f ++ X).getD f.name.size 0 = f.name.data.toList.getD (f.name.size - 1) 0 := by
          unfold fileL textL
          rw [hv]
          simp only [List.append_assoc, List.cons_append, List.nil_append]
          obtain ⟨m, hm⟩ : ∃ m, f.name.size = m + 1 := ⟨f.name.size - 1, by omega⟩
          rw [hm, Nat.add_sub_cancel]
          rw [show ∀ (a : UInt8) (l : List UInt8), (a :: l).getD (m + 1) 0 = l.getD m 0 from fun a l => by simp [List.getD]]
          exact Fr.getD_left _ _ _ (by omega)
        rw [hlast] at hzl
        have hmem : f.name.data.toList.getD (f.name.size - 1) 0 ∈ f.name.data.toList := by
          have hi : f.name.size - 1 < f.name.data.toList.length := by omega
          rw [List.getD, List.getElem?_eq_getElem hi]
          exact List.getElem_mem hi
        have hbad := hn3 _ hmem
        rw [hzl] at hbad
        exact absurd hbad (by decide)
      obtain ⟨j, rfl⟩ : ∃ j, k = P.length + j := ⟨k - P.length, by omega⟩
      have hjm : f.name.size ≤ j := by omega
      have hjl : j < (fileL f).length := by
        rw [hdl] at hkd
        rw [List.flatMap_append, List.length_append] at hkd
        simp only [List.flatMap_cons, List.flatMap_nil, List.append_nil] at hkd
        omega
      have hset : ∀ Q, (P ++ Q).set (P.length + j) y = P ++ Q.set j y := fun Q => by
        rw [List.set_append_right _ _ (by omega), Nat.add_sub_cancel_left]
      rw [hPe, hset, hPd] at hb'
      unfold pDir at hb'
      rw [pNum_varL 64 _ _ hML (by omega)] at hb'
      simp only [Option.bind_eq_bind, Option.bind_some] at hb'
      obtain ⟨f', rfl, hp⟩ := pFiles_pre M _ _ _ hM hb'
      have hF' := r1.2.filled f' (by simp)
      have hzj : ∀ i, j < i → (fileL f ++ X).getD i 0 = 0 := fun i hi => by
        have := hz (P.length + i) (by omega)
        rw [hPe, Fr.getD_right] at this
        exact this
      rcases List.eq_nil_or_concat f.ext with hE | ⟨E, x, hE⟩
      · -- no extents: no bytes
        have hs := hF.sum
        rw [hE] at hs
        have hs0 : f.size = 0 := by have := hF.size; simp only [sumC, List.map_nil, List.sum_nil, need] at hs; omega
        have z0 : varL 0 = [0] := by rw [Fr.varL_lo 0 (by omega)]; rfl
        have hsh : ∃ c : UInt8, varL (if f.shut = true then 1 else 0) = [c] := by split <;> exact ⟨_, Fr.varL_lo _ (by omega)⟩
        obtain ⟨c, hc⟩ := hsh
        have hv : varL f.name.data.toList.length = [UInt8.ofNat f.name.size] := by rw [hnl, Fr.varL_lo _ (by omega)]
        have efl : fileL f = (UInt8.ofNat f.name.size :: (f.name.data.toList ++ [c])) ++ [0, 0] := by
          unfold fileL textL
          rw [hc, hs0, hE, hv]
          simp [z0]
        have hfl : (fileL f).length = f.name.size + 4 := by rw [efl]; simp [hnl]
        have hj2 : j < f.name.size + 2 := by
          apply Decidable.byContradiction
          intro hh
          apply h0
          rw [hPe, Fr.getD_right, efl, List.append_assoc]
          rcases (by omega : j = f.name.size + 2 ∨ j = f.name.size + 3) with rfl | rfl
          · simp [hnl]
          · simp [hnl]
        obtain ⟨i, rfl⟩ : ∃ i, j = i + 1 := ⟨j - 1, by omega⟩
        have hil : i < (f.name.data.toList ++ [c]).length := by rw [List.length_append, hnl]; simp; omega
        have eset : (fileL f ++ X).set (i + 1) y = UInt8.ofNat f.name.size :: ((f.name.data.toList ++ [c]).set i y ++ ([0, 0] ++ X)) := by
          rw [efl, List.append_assoc, List.cons_append, List.set_cons_succ, List.set_append_left _ _ hil]
        have hsl : ((f.name.data.toList ++ [c]).set i y).length = f.name.size + 1 := by rw [List.length_set, List.length_append, hnl]; rfl
        generalize (f.name.data.toList ++ [c]).set i y = Q at eset hsl
        rcases List.eq_nil_or_concat Q with rfl | ⟨nm, sh, rfl⟩
        · simp at hsl
        · rw [List.concat_eq_append] at *
          have hnm : nm.length = f.name.size := by simpa using hsl
          rw [eset] at hp
          have hv2 : varL nm.length = [UInt8.ofNat f.name.size] := by rw [hnm, Fr.varL_lo _ (by omega)]
          have hx := pFile_none nm sh X X' f' (by omega) (by rw [hv2]; simpa using hp)
          refine sums_len (M ++ [f]) (M ++ [f']) (P.length + (i + 1)) y hkd hy ?_ r3
          rw [hdl, dirL_len _ r1.1]
          simp only [List.flatMap_append, List.flatMap_cons, List.flatMap_nil, List.length_append, List.append_nil]
          omega
      · -- the last Count is what the others leave of it
        rw [List.concat_eq_append] at hE
        obtain ⟨a, c⟩ := x
        have hc1 := hF.some (a, c) (by rw [hE]; simp)
        have hc2 := hf.ext (a, c) (by rw [hE]; simp)
        dsimp only at hc1 hc2
        obtain ⟨A, b, eA, hb⟩ := Sm.varL_last c.toNat (by omega) (by omega)
        have efl : ∃ P2, fileL f = P2 ++ varL c.toNat ∧ ∀ Y, P2 ++ Y = textL f.name.data.toList ++ (varL (if f.shut then 1 else 0) ++ (varL f.size.toNat ++ (varL f.ext.length ++ (E.flatMap extL ++ (varL a.toNat ++ Y))))) := by
          refine ⟨textL f.name.data.toList ++ varL (if f.shut then 1 else 0) ++ varL f.size.toNat ++ varL f.ext.length ++ E.flatMap extL ++ varL a.toNat, ?_, fun Y => by simp only [List.append_assoc]⟩
          unfold fileL
          rw [hE]
          simp only [List.flatMap_append, List.flatMap_cons, List.flatMap_nil, extL, List.append_nil, List.append_assoc]
        obtain ⟨P2, efl, hP2⟩ := efl
        have hj3 : P2.length ≤ j := by
          apply Decidable.byContradiction
          intro hh
          have := hzj (P2.length + A.length) (by omega)
          rw [efl, eA] at this
          have e5 : P2 ++ (A ++ [b]) ++ X = (P2 ++ A) ++ (b :: X) := by simp
          rw [e5, ← List.length_append] at this
          have e6 := Fr.getD_right (P2 ++ A) (b :: X) 0
          rw [Nat.add_zero] at e6
          rw [e6] at this
          exact hb (by simpa using this)
        rw [efl, List.append_assoc, List.set_append_right _ _ hj3, hP2] at hp
        exact hsame (by rw [pFile_pre f f' E a c _ _ hf hE hF hF' hp])
