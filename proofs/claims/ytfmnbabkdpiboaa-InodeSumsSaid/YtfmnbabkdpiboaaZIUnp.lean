/- What Unpack answers. -/
import Derived.Test.YtfmnbabkdpiboaaZIFileR
import Derived.Test.YtfmnbabkdpiboaaZIPack
import Derived.Deep.QuietTactic
import Derived.Test.YtfmnbabkdpiboaaZWFix
import Derived.Deep.RegionHeld3

namespace Go.Proofs.Ytfmnbabkdpiboaa
open Go.RowKit
open Fr (rdV rdT bs str_len below_drewN fixL unfix crcL)

/-- A directory's bytes, read. -/
def unpR (l : List UInt8) : List Fl × Int :=
  if l.length = 3072 ∧ Lib.hasPrefix l [67, 68, 88, 73] = true then
    match pDir (l.drop 4) with
    | none => ([], 7)
    | some (L, r) => if 4 ≤ r.length ∧ r.drop 4 = List.replicate (r.length - 4) 0 ∧ rtB L 0 4096 = true then (if r.take 4 = fixL (crcL (dirL L)) then (L, 0) else ([], 8)) else ([], 7)
  else ([], 7)
theorem pre_four (l : List UInt8) (h : Lib.hasPrefix l [67, 68, 88, 73] = true) : l = [67, 68, 88, 73] ++ l.drop 4 := by
  match l with
  | [] => simp [Lib.hasPrefix] at h
  | [a] => simp [Lib.hasPrefix] at h
  | [a, b] => simp [Lib.hasPrefix] at h
  | [a, b, c] => simp [Lib.hasPrefix] at h
  | a :: b :: c :: d :: r =>
    simp [Lib.hasPrefix] at h
    obtain ⟨rfl, rfl, rfl, rfl⟩ := h
    rfl
/-- What is ahead of what is left is the directory's bytes. -/
theorem ahead_dir {l r : List UInt8} {L : List Fl} (hp : Lib.hasPrefix l [67, 68, 88, 73] = true) (h : pDir (l.drop 4) = some (L, r)) : l = dirL L ++ r := by
  have h1 := (pDir_some h).1
  have h2 := pre_four l hp
  rw [h2, ← h1]
  unfold dirL
  simp
theorem OwnF.down {T : TypeId} {B B' : Nat} {w : World} {v : Value} {L : List Fl} (h : OwnF T B w v L) (hb : B' ≤ B) : OwnF T B' w v L := by
  obtain ⟨P, h1, h2, h3⟩ := h
  exact ⟨P, h1, own_down h2 hb, fun p hp => own_down (h3 p hp) hb⟩
theorem unfix_iff (a b c d : UInt8) (v : Nat) (hv : v < 4294967296) : [a, b, c, d] = fixL v ↔ unfix a b c d = v := by
  constructor
  · intro h
    unfold fixL at h
    simp only [List.cons.injEq, and_true] at h
    obtain ⟨rfl, rfl, rfl, rfl⟩ := h
    exact Fr.unfix_fixL v hv
  · intro h
    subst h
    have h1 := a.toNat_lt; have h2 := b.toNat_lt; have h3 := c.toNat_lt; have h4 := d.toNat_lt
    unfold unfix fixL
    simp only [List.cons.injEq, and_true]
    refine ⟨?_, ?_, ?_, ?_⟩ <;> (apply UInt8.toNat_inj.1; rw [UInt8.toNat_ofNat']; omega)
/-- The files' names and numbers are a machine's, as they were read. -/
theorem nums_pDir {l r : List UInt8} {L : List Fl} (hl : l.length ≤ 100000) (h : pDir l = some (L, r)) : Nums64 L := by
  obtain ⟨h1, h2, h3⟩ := pDir_some h
  intro f hf
  obtain ⟨a1, a2, a3, a4⟩ := h3 f hf
  refine ⟨?_, by unfold I64; omega, fun x hx => ?_⟩
  · have hlen := congrArg List.length h1
    simp only [List.length_append] at hlen
    have hfl : (fileL f).length ≤ (L.flatMap fileL).length := by
      obtain ⟨p, q, rfl⟩ := List.append_of_mem hf
      simp only [List.flatMap_append, List.flatMap_cons, List.length_append]
      omega
    have hn : f.name.size ≤ (fileL f).length := by
      rw [fileL_eq]
      simp only [List.length_append]
      have : f.name.data.toList.length = f.name.size := by simp
      unfold Fr.textL
      rw [List.length_append]
      omega
    omega
  · have := a4 x hx
    unfold I64
    omega
set_option maxRecDepth 100000 in
set_option maxHeartbeats 4000000 in
theorem unpack_any (s : ByteArray) (w : World) (hs : s.size ≤ 1000000) :
    Calls Try.prog 20 #[.string s] w fun e w' => ∃ v, e = .returned (.tuple #[v, .int .i64 (unpR s.data.toList).2]) ∧ Hid (OwnF 50 w.heap.size w' v (unpR s.data.toList).1) ∧ Hid (Below w.heap.size w w') := by
  have hll := str_len s
  have C := Lib.hid (Try.strings_HasPrefix s ⟨#[67, 68, 88, 73]⟩ w)
  have hpe : (⟨#[67, 68, 88, 73]⟩ : ByteArray).data.toList = [67, 68, 88, 73] := rfl
  rw [hpe] at C
  by_cases h1 : s.size = 3072
  case neg =>
    have hz : unpR s.data.toList = ([], 7) := by unfold unpR; rw [if_neg (by rw [hll]; exact fun h => h1 h.1)]
    rw [hz]
    have i1 : ((s.size : Int) != 3072) = true := bne_iff_ne.2 (by omega)
    clear hz hll C hpe
    go_enter Try.func20, Try.ntmps20
    go_wp2_with fail
    go_ret2
    exact ⟨_, rfl, OwnF.nil _ _ _, Below.refl _ _⟩
  have i1 : ((s.size : Int) != 3072) = false := by rw [bne_eq_false_iff_eq]; omega
  cases h2 : Lib.hasPrefix s.data.toList [67, 68, 88, 73]
  case false =>
    have hz : unpR s.data.toList = ([], 7) := by unfold unpR; rw [if_neg (by rw [h2]; simp)]
    rw [hz]
    rw [h2] at C
    clear hz hll h2 hpe h1
    go_enter Try.func20, Try.ntmps20
    go_wp2_with fail
    refine C.out.mono ?_
    rintro e w1 ⟨rfl, rfl⟩
    go_wp2_with fail
    go_ret2
    exact ⟨_, rfl, OwnF.nil _ _ _, Below.refl _ _⟩
  rw [h2] at C
  have hz : unpR s.data.toList = (match pDir (s.data.toList.drop 4) with
    | none => ([], 7)
    | some (L, r) => if 4 ≤ r.length ∧ r.drop 4 = List.replicate (r.length - 4) 0 ∧ rtB L 0 4096 = true then (if r.take 4 = fixL (crcL (dirL L)) then (L, 0) else ([], 8)) else ([], 7)) := by
    conv => lhs; unfold unpR
    rw [if_pos ⟨by rw [hll]; exact h1, h2⟩]
  have HZP := Lib.hid hz
  generalize unpR s.data.toList = P at *
  have hx4 : (s.extract 4 3072).data.toList = s.data.toList.drop 4 := by rw [← h1, Fr.ext_drop, bs_list]
  have i4 : (4 : Int) ≤ (s.size : Int) := by omega
  have HAD := Lib.hid fun L r (h : pDir (s.data.toList.drop 4) = some (L, r)) => ahead_dir h2 h
  have hdl : (s.data.toList.drop 4).length = 3068 := by rw [List.length_drop, hll]; omega
  have HNm := Lib.hid fun L r (h : pDir (s.data.toList.drop 4) = some (L, r)) => nums_pDir (by omega) h
  have HDY := Lib.hid fun L r (h : pDir (s.data.toList.drop 4) = some (L, r)) => nDir_yes h
  have HDN := Lib.hid fun (h : pDir (s.data.toList.drop 4) = none) => nDir_no h
  have HRlen : Hid (∀ L r, pDir (s.data.toList.drop 4) = some (L, r) → r.length ≤ 3068) := fun L r h => by
    have := congrArg List.length (pDir_some h).1
    simp only [List.length_append] at this
    omega
  have hXs : (s.extract 4 3072).size ≤ 3072 := by rw [← str_len, hx4]; omega
  have HFS : Hid (∀ W, RdOK W w.heap.size (some (s.data.toList.drop 4)) → _) := fun W h => filesR_any (some (s.data.toList.drop 4)) w.heap.size W h
  have HRd : Hid (∀ W : World, W.heap[w.heap.size]? = some (.cells #[.string (s.extract 4 3072), .bool false] 73 (0, 0)) → RdOK W w.heap.size (some (s.data.toList.drop 4))) := fun W h => ⟨_, false, h, hXs, (fun l hl => by cases hl; exact ⟨rfl, hx4⟩), (fun h => by cases h)⟩
  have HSL : Hid (∀ q : Nat, s.extract 0 q = bs (s.data.toList.take q)) := fun q => Fr.ext_take s q
  obtain ⟨X, hX⟩ : ∃ X, s.extract 4 3072 = X := ⟨_, rfl⟩
  have HX9 := Lib.hid hX
  rw [hX] at hx4 hXs HRd
  clear hX
  generalize hl4 : s.data.toList.drop 4 = l4 at *
  clear hz h2 hpe hl4
  go_enter Try.func20, Try.ntmps20
  go_wp2_with fail
  refine C.out.mono ?_
  rintro e w1 ⟨rfl, rfl⟩
  have hXX : s.extract 4 3072 = X := HX9.out
  go_wp2_with fail
  clear hXX
  refine (HFS.out _ (HRd.out _ (heap_alloc_new w1 _))).mono ?_
  rintro e w2 ⟨v, rfl, HV, HR, HO⟩
  have HB2 : Hid (Below w1.heap.size w1 w2) := ((Below.refl _ _).alloc (Nat.le_refl _) _).trans (HO.out.below (by simp) (fun k _ e => by omega))
  have HV2 : Hid (OwnF 50 w1.heap.size w2 v (nDir (some l4)).1) := HV.out.down (by simp)
  obtain ⟨fo, fc, hv⟩ := HV.out.shape
  subst hv
  clear HV HO HFS HRd C
  obtain ⟨s2, b, hg2, hs2, hb1, hb2⟩ := HR.out
  have HG2 := Lib.hid hg2
  have hg0 := cell_at hg2 0
  have hg1 := cell_at hg2 1
  clear hg2 HR
  have j1 : (0 : Int) ≤ 3072 - (s2.size : Int) := by omega
  have j2 : (3072 : Int) - (s2.size : Int) ≤ (s.size : Int) := by omega
  have j3 : ((3072 : Int) - (s2.size : Int)).toNat = 3072 - s2.size := by omega
  cases hp : pDir l4 with
  | none =>
    obtain rfl : b = true := hb2 (HDN.out hp)
    have HE : Hid (P = ([], 7)) := by show _ = _; rw [HZP.out, hp]
    clear HZP hp HDY HDN HNm HAD HRlen
    by_cases q4 : 4 ≤ s2.size
    · have CF := Lib.hid (Fr.toFixed_some s2 w2 q4 (by unfold maxLen; omega))
      generalize unfix s2[0] s2[1] s2[2] s2[3] = uf at *
      go_wp2_with fail
      refine CF.out.mono ?_
      rintro e w3 ⟨rfl, hb3⟩
      have hg3 := (hb3.cell (p := ⟨w1.heap.size, 1, none⟩) (Array.getElem?_eq_some_iff.1 HG2.out).1).trans hg1
      have HB3 : Hid (Below w1.heap.size w1 w3) := HB2.out.trans (hb3.mono HB2.out.size)
      clear hb3 CF
      go_wp2_with fail
      go_ret2
      exact ⟨_, by rw [HE.out]; rfl, by rw [HE.out]; exact OwnF.nil _ _ _, HB3⟩
    · have CF := Lib.hid (Fr.toFixed_none s2 w2 (by omega))
      go_wp2_with fail
      refine CF.out.mono ?_
      rintro e w3 ⟨rfl, hb3⟩
      have hg3 := (hb3.cell (p := ⟨w1.heap.size, 1, none⟩) (Array.getElem?_eq_some_iff.1 HG2.out).1).trans hg1
      have HB3 : Hid (Below w1.heap.size w1 w3) := HB2.out.trans (hb3.mono HB2.out.size)
      clear hb3 CF
      go_wp2_with fail
      go_ret2
      exact ⟨_, by rw [HE.out]; rfl, by rw [HE.out]; exact OwnF.nil _ _ _, HB3⟩
  | some p =>
    obtain ⟨L, r⟩ := p
    have hnd := HDY.out L r hp
    rw [hnd] at HV2 hb1 hb2
    obtain ⟨rfl, hr⟩ := hb1 r rfl
    have hlr : r.length = s2.size := by rw [← hr]; exact str_len s2
    have HNu := Lib.hid (HNm.out L r hp)
    have hL64 := (pDir_some hp).2.1
    have HAh := Lib.hid (HAD.out L r hp)
    have HZQ : Hid (P = if 4 ≤ s2.size ∧ r.drop 4 = List.replicate (s2.size - 4) 0 ∧ rtB L 0 4096 = true then (if r.take 4 = fixL (crcL (dirL L)) then (L, 0) else ([], 8)) else ([], 7)) := by show _ = _; rw [HZP.out, hp]; dsimp only; rw [hlr]
    rw [hnd]
    dsimp only at HV2 ⊢
    clear HZP
    clear hb1 hb2 hnd HDY HDN HNm HAD HRlen hp
    by_cases q4 : 4 ≤ s2.size
    case neg =>
      have CF := Lib.hid (Fr.toFixed_none s2 w2 (by omega))
      have HE : Hid (P = ([], 7)) := by show _ = _; rw [HZQ.out, if_neg (fun h => q4 h.1)]
      clear HZQ
      go_wp2_with fail
      refine CF.out.mono ?_
      rintro e w3 ⟨rfl, hb3⟩
      have hg3 := (hb3.cell (p := ⟨w1.heap.size, 1, none⟩) (Array.getElem?_eq_some_iff.1 HG2.out).1).trans hg1
      have HB3 : Hid (Below w1.heap.size w1 w3) := HB2.out.trans (hb3.mono HB2.out.size)
      clear hb3 CF
      go_wp2_with fail
      go_ret2
      exact ⟨_, by rw [HE.out]; rfl, by rw [HE.out]; exact OwnF.nil _ _ _, HB3⟩
    have CF := Lib.hid (Fr.toFixed_some s2 w2 q4 (by unfold maxLen; omega))
    have hcl : crcL (dirL L) < 4294967296 := Fr.crcL_lt _
    have HU : Hid (r.take 4 = fixL (crcL (dirL L)) ↔ unfix s2[0] s2[1] s2[2] s2[3] = crcL (dirL L)) := by
      have e : s2.data.toList.take 4 = [s2[0], s2[1], s2[2], s2[3]] := by
        apply List.ext_getElem
        · rw [List.length_take, str_len]; simp; omega
        · intro i h1 h2
          simp at h2
          rw [List.getElem_take]
          rcases (by omega : i = 0 ∨ i = 1 ∨ i = 2 ∨ i = 3) with rfl | rfl | rfl | rfl <;> rfl
      have e2 : r.take 4 = s2.data.toList.take 4 := by rw [hr]
      show _ ↔ _
      rw [e2, e]; exact unfix_iff _ _ _ _ _ hcl
    have hrest : s2.extract 4 s2.size = bs (r.drop 4) := by rw [Fr.ext_drop, hr]
    have hrs : (s2.extract 4 s2.size).size = s2.size - 4 := by rw [hrest, Fr.bs_size, List.length_drop, hlr]
    have HZ : Hid (r.drop 4 = List.replicate (s2.size - 4) 0 ↔ s2.extract 4 s2.size = bs (List.replicate (s2.size - 4) 0)) := by
      show _ ↔ _
      rw [hrest]
      exact ⟨fun h => by rw [h], fun h => Fr.bs_inj h⟩
    have CN := Lib.hid fun W => noughts_any (s2.size - 4) W (by omega)
    have hsum : Hid (s.extract 0 (3072 - s2.size) = bs (dirL L)) := by
      have e1 : s.data.toList.take (3072 - s2.size) = dirL L := by
        have e2 : 3072 - s2.size = (dirL L).length := by
          have := congrArg List.length HAh.out
          rw [hll, List.length_append, hlr] at this
          omega
        conv => lhs; rw [e2, HAh.out]
        exact List.take_left' rfl
      show _ = _
      rw [HSL.out, e1]
    have CC := Lib.hid fun g W (hg : W.heap[g]? = some (.cells #[.string (bs (dirL L))] 9 (0, 0))) => crc_one (bs (dirL L)) (by rw [← hsum.out]; have := h1; rw [ByteArray.size_extract]; omega) g W hg
    rw [bs_list] at CC
    have CD := Lib.hid fun W (h : SlF W (.slice fo L.length fc) L) => isDir_any L _ W h HNu.out (by omega)
    have HZQ2 : Hid (∀ (q1 : s2.extract 4 s2.size = bs (List.replicate (s2.size - 4) 0)) (q2 : rtB L 0 4096 = true), (unfix s2[0] s2[1] s2[2] s2[3] = crcL (dirL L) → P = (L, 0)) ∧ (¬ unfix s2[0] s2[1] s2[2] s2[3] = crcL (dirL L) → P = ([], 8))) := fun q1 q2 => by
      rw [HZQ.out, if_pos ⟨q4, HZ.out.2 q1, q2⟩]
      exact ⟨fun h => if_pos (HU.out.2 h), fun h => if_neg (fun h2 => h (HU.out.1 h2))⟩
    have HZQ1 : Hid (s2.extract 4 s2.size ≠ bs (List.replicate (s2.size - 4) 0) → P = ([], 7)) := fun q1 => by
      rw [HZQ.out]; exact if_neg (fun h => q1 (HZ.out.1 h.2.1))
    have HZQ3 : Hid (rtB L 0 4096 = false → P = ([], 7)) := fun q1 => by
      rw [HZQ.out]; exact if_neg (fun h => by rw [q1] at h; exact absurd h.2.2 (by simp))
    have huf : unfix s2[0] s2[1] s2[2] s2[3] < 4294967296 := by
      have h1 := s2[0].toNat_lt; have h2 := s2[1].toNat_lt; have h3 := s2[2].toNat_lt; have h4 := s2[3].toNat_lt
      unfold unfix; omega
    generalize unfix s2[0] s2[1] s2[2] s2[3] = uf at *
    obtain ⟨R, hR⟩ : ∃ R, s2.extract 4 s2.size = R := ⟨_, rfl⟩
    obtain ⟨Z, hZ⟩ : ∃ Z, bs (List.replicate (s2.size - 4) 0) = Z := ⟨_, rfl⟩
    rw [hR] at CF hrs HZQ1 HZQ2
    rw [hZ] at CN HZQ1 HZQ2
    have HSM := Lib.hid hsum.out
    obtain ⟨U, hU⟩ : ∃ U, bs (dirL L) = U := ⟨_, rfl⟩
    rw [hU] at CC HSM
    generalize crcL (dirL L) = cr at *
    clear HU HZ hrest hsum hR hZ hU HZQ HAh hr hlr HSL
    go_wp2_with fail
    refine CF.out.mono ?_
    rintro e w3 ⟨rfl, hb3⟩
    have hg3 := (hb3.cell (p := ⟨w1.heap.size, 1, none⟩) (Array.getElem?_eq_some_iff.1 HG2.out).1).trans hg1
    have HB3 : Hid (Below w1.heap.size w1 w3) := HB2.out.trans (hb3.mono HB2.out.size)
    have HV3 := Lib.hid (HV2.out.below hb3)
    clear hb3 CF
    go_wp2_with fail
    refine (CN.out _).mono ?_
    rintro e w4 ⟨rfl, hb4⟩
    have HB4 : Hid (Below w1.heap.size w1 w4) := HB3.out.trans (hb4.mono HB3.out.size)
    have HV4 := Lib.hid (HV3.out.below hb4)
    clear hb4 CN HV3 HV2 HB3 HB2 hg0 hg1 hg3 HG2
    by_cases q1 : R = Z
    case neg =>
      have HE := Lib.hid (HZQ1.out q1)
      have q3 := Fr.str_diff q1
      clear HZQ1 HZQ2 HZQ3
      go_wp2_with fail
      go_ret2
      exact ⟨_, by rw [HE.out]; rfl, by rw [HE.out]; exact OwnF.nil _ _ _, HB4⟩
    have q3 := Fr.str_same q1
    go_wp2_with fail
    refine (CD.out _ HV4.out.sl).mono ?_
    rintro e w5 ⟨rfl, hb5⟩
    have HB5 : Hid (Below w1.heap.size w1 w5) := HB4.out.trans (hb5.mono HB4.out.size)
    have HV5 := Lib.hid (HV4.out.below hb5)
    clear hb5 CD HV4 HB4
    cases q2 : rtB L 0 4096
    case false =>
      have HE := Lib.hid (HZQ3.out q2)
      clear HZQ1 HZQ2 HZQ3
      go_wp2_with fail
      go_ret2
      exact ⟨_, by rw [HE.out]; rfl, by rw [HE.out]; exact OwnF.nil _ _ _, HB5⟩
    obtain ⟨hP1, hP2⟩ := HZQ2.out q1 q2
    clear HZQ1 HZQ2 HZQ3
    have hs9 : s.extract 0 (3072 - s2.size) = U := HSM.out
    go_wp2_with fail
    refine (CC.out _ _ (heap_alloc_new _ _)).mono ?_
    rintro e w6 ⟨rfl, rfl⟩
    have HB6 : Hid (Below w1.heap.size w1 (w5.alloc (.cells #[.string U] 9))) := HB5.out.alloc HB5.out.size _
    have HV6 := Lib.hid (HV5.out.below ((Below.refl _ _).alloc (Nat.le_refl _) (.cells #[.string U] 9)))
    by_cases q5 : uf = cr
    · have HE := Lib.hid (hP1 q5)
      have q6 : ((uf : Int) != (cr : Int)) = false := by rw [bne_eq_false_iff_eq]; omega
      clear hP1 hP2
      go_wp2_with fail
      go_ret2
      exact ⟨_, by rw [HE.out]; rfl, by rw [HE.out]; exact HV6.out, HB6⟩
    · have HE := Lib.hid (hP2 q5)
      have q6 : ((uf : Int) != (cr : Int)) = true := bne_iff_ne.2 (by omega)
      clear hP1 hP2
      go_wp2_with fail
      go_ret2
      exact ⟨_, by rw [HE.out]; rfl, by rw [HE.out]; exact OwnF.nil _ _ _, HB6⟩
end Go.Proofs.Ytfmnbabkdpiboaa
/- What is packed is unpacked as it was, and what is unpacked is packed as it was. -/
namespace Go.Proofs.Ytfmnbabkdpiboaa
open Go.RowKit
open Fr (bs str_len fixL crcL)

theorem dirL_pre (L : List Fl) (s : List UInt8) : Lib.hasPrefix (dirL L ++ s) [67, 68, 88, 73] = true := by
  unfold dirL
  simp [Lib.hasPrefix]
theorem packed_len (L : List Fl) (hl : (packL L).length ≤ 3072) : (packed L).length = 3072 := by
  unfold packed; rw [List.length_append, List.length_replicate]; omega
theorem unpR_packed (L : List Fl) (h : RightP L 0 4096) (hl : (packL L).length ≤ 3072) : unpR (packed L) = (L, 0) := by
  have e : packed L = dirL L ++ (fixL (crcL (dirL L)) ++ List.replicate (3072 - (packL L).length) 0) := by unfold packed packL; rw [List.append_assoc]
  have hd : (packed L).drop 4 = Fr.varL L.length ++ L.flatMap fileL ++ (fixL (crcL (dirL L)) ++ List.replicate (3072 - (packL L).length) 0) := by
    rw [e]; unfold dirL; simp
  have h4 : (fixL (crcL (dirL L))).length = 4 := rfl
  unfold unpR
  rw [if_pos ⟨packed_len L hl, by rw [e]; exact dirL_pre L _⟩, hd, pDir_back L _ h.1 h.small]
  dsimp only
  rw [if_pos, if_pos]
  · exact List.take_left' h4
  · refine ⟨by rw [List.length_append]; omega, ?_, (rtB_iff L 0 4096).2 h⟩
    rw [List.drop_left' h4, List.length_append, List.length_replicate, h4]
    congr 1; omega
theorem unpR_ok {l : List UInt8} (h : (unpR l).2 = 0) : RightP (unpR l).1 0 4096 ∧ (packL (unpR l).1).length ≤ 3072 ∧ packed (unpR l).1 = l := by
  unfold unpR at h ⊢
  split at h
  case isFalse => simp at h
  case isTrue hc =>
    rw [if_pos hc]
    cases hp : pDir (l.drop 4) with
    | none => rw [hp] at h; simp at h
    | some p =>
      obtain ⟨L, r⟩ := p
      rw [hp] at h
      dsimp only at h ⊢
      split at h
      case isFalse => simp at h
      case isTrue hq =>
        rw [if_pos hq]
        split at h
        case isFalse => simp at h
        case isTrue hs =>
          rw [if_pos hs]
          dsimp only
          obtain ⟨q1, q2, q3⟩ := hq
          have e := ahead_dir hc.2 hp
          have er : r = fixL (crcL (dirL L)) ++ List.replicate (r.length - 4) 0 := by
            conv => lhs; rw [← List.take_append_drop 4 r, hs, q2]
          have hlen := congrArg List.length e
          rw [hc.1, List.length_append] at hlen
          have h4 : (fixL (crcL (dirL L))).length = 4 := rfl
          have hpl : (packL L).length = (dirL L).length + 4 := by unfold packL; rw [List.length_append, h4]
          refine ⟨(rtB_iff L 0 4096).1 q3, by omega, ?_⟩
          unfold packed
          have e3 : 3072 - (packL L).length = r.length - 4 := by omega
          rw [e3]
          conv => rhs; rw [e, er]
          unfold packL
          rw [List.append_assoc]
theorem unpR_bad {l : List UInt8} (h : (unpR l).2 ≠ 0) : (unpR l).1 = [] := by
  unfold unpR at h ⊢
  split
  case isFalse => rfl
  case isTrue hc =>
    rw [if_pos hc] at h
    cases hp : pDir (l.drop 4) with
    | none => rfl
    | some p =>
      obtain ⟨L, r⟩ := p
      rw [hp] at h
      dsimp only at h ⊢
      split
      case isFalse => rfl
      case isTrue hq =>
        rw [if_pos hq] at h
        split
        case isFalse => rfl
        case isTrue hs => rw [if_pos hs] at h; simp at h
/-- What Pack answers, as two. -/
def packE (L : List Fl) : Int := if rtB L 0 4096 = true then (if (packL L).length ≤ 3072 then 0 else 5) else 1
def packS (L : List Fl) : ByteArray := if packE L = 0 then bs (packed L) else ⟨#[]⟩
theorem packV_eq (L : List Fl) : packV L = .tuple #[.string (packS L), .int .i64 (packE L)] := by
  unfold packV packS packE
  split
  · split
    · rfl
    · rfl
  · rfl
theorem packE_zero {L : List Fl} (h : packE L = 0) : RightP L 0 4096 ∧ (packL L).length ≤ 3072 := by
  unfold packE at h
  split at h
  · split at h
    · rename_i h1 h2; exact ⟨(rtB_iff L 0 4096).1 h1, h2⟩
    · simp at h
  · simp at h
theorem packE_of {L : List Fl} (h : RightP L 0 4096) (h2 : (packL L).length ≤ 3072) : packE L = 0 := by
  unfold packE
  rw [if_pos ((rtB_iff L 0 4096).2 h), if_pos h2]
theorem packS_zero {L : List Fl} (h : packE L = 0) : packS L = bs (packed L) := by unfold packS; rw [if_pos h]
theorem packS_bad {L : List Fl} (h : packE L ≠ 0) : packS L = ⟨#[]⟩ := by unfold packS; rw [if_neg h]
theorem packE_cases (L : List Fl) : packE L = 0 ∨ packE L = 1 ∨ packE L = 5 := by
  unfold packE
  split
  · split
    · exact .inl rfl
    · exact .inr (.inr rfl)
  · exact .inr (.inl rfl)
theorem packS_size (L : List Fl) : (packS L).size ≤ 3072 := by
  by_cases h : packE L = 0
  · rw [packS_zero h, Fr.bs_size, packed_len L (packE_zero h).2]; exact Nat.le_refl _
  · rw [packS_bad h]; exact Nat.zero_le _
theorem pack_two (L : List Fl) (v : Value) (w : World) (h : SlF w v L) (hN : Nums64 L) (hn : L.length ≤ 9223372036854775807) : Calls Try.prog 18 #[v] w fun e w' => e = .returned (.tuple #[.string (packS L), .int .i64 (packE L)]) ∧ Below w.heap.size w w' := by
  rw [← packV_eq]; exact pack_any L v w h hN hn
end Go.Proofs.Ytfmnbabkdpiboaa
/- The chapter's examples: shown answers true. -/
namespace Go.Proofs.Ytfmnbabkdpiboaa
open Go.RowKit
open Fr (bs str_len fixL crcL below_drewN)

def one8 : List Fl := [⟨⟨#[97]⟩, false, 300, [(64, 2)]⟩]
def two8 : List Fl := [⟨⟨#[97]⟩, false, 513, [(64, 2)]⟩]
theorem slF_lit {W : World} {g b : Nat} {nm : ByteArray} {sh : Bool} {sz x c : Int} (h1 : W.heap[g]? = some (.cells #[.string nm, .bool sh, .int .i64 sz, .slice (some ⟨b, 0, none⟩) 1 1] 50 (0, 0))) (h2 : W.heap[b]? = some (.cells #[.int .i64 x, .int .i64 c] 52 (0, 0))) :
    SlF W (.slice (some ⟨g, 0, none⟩) 1 1) [⟨nm, sh, sz, [(x, c)]⟩] := by
  refine ⟨_, 1, rfl, Nat.le_refl _, .inr ⟨g, 0, rfl, (Array.getElem?_eq_some_iff.1 h1).1, fun j hj => ?_⟩⟩
  obtain rfl : j = 0 := by simp at hj; omega
  refine ⟨.slice (some ⟨b, 0, none⟩) 1 1, by rw [cell_at h1]; rfl, by rw [cell_at h1]; rfl, by rw [cell_at h1]; rfl, by rw [cell_at h1]; rfl, _, 1, rfl, Nat.le_refl _, .inr ⟨b, 0, rfl, (Array.getElem?_eq_some_iff.1 h2).1, fun j hj => ?_⟩⟩
  obtain rfl : j = 0 := by simp at hj; omega
  exact ⟨by rw [cell_at h2]; rfl, by rw [cell_at h2]; rfl⟩
theorem nums_one (n : Int) (h : I64 n) : Nums64 [⟨⟨#[97]⟩, false, n, [(64, 2)]⟩] := by
  intro f hf
  simp only [List.mem_singleton] at hf
  subst hf
  refine ⟨by show (1 : Nat) ≤ _; omega, h, fun x hx => ?_⟩
  simp only [List.mem_singleton] at hx
  subst hx
  unfold I64; dsimp only; omega
theorem slF_nil (w : World) : SlF w (.slice none 0 0) [] := ⟨none, 0, rfl, Nat.le_refl _, .inl rfl⟩
theorem right_nil : RightP [] 0 4096 := ⟨by simp, Right0.nil _ _⟩
theorem pack_nil_len : (packL []).length = 9 := by
  unfold packL dirL
  rw [Fr.varL_lo _ (by simp)]
  rfl
theorem alloc_keep {w : World} {o x : Obj} {k : Nat} (h : w.heap[k]? = some x) : (w.alloc o).heap[k]? = some x := (Below.heap_alloc _ _ _ (Array.getElem?_eq_some_iff.1 h).1).trans h
theorem four_alloc (w : World) (o1 o2 o3 o4 : Obj) : ((((w.alloc o1).alloc o2).alloc o3).alloc o4).heap[w.heap.size]? = some o1 ∧ ((((w.alloc o1).alloc o2).alloc o3).alloc o4).heap[w.heap.size + 1]? = some o2 ∧ ((((w.alloc o1).alloc o2).alloc o3).alloc o4).heap[w.heap.size + 1 + 1]? = some o3 ∧ ((((w.alloc o1).alloc o2).alloc o3).alloc o4).heap[w.heap.size + 1 + 1 + 1]? = some o4 ∧ Below w.heap.size w ((((w.alloc o1).alloc o2).alloc o3).alloc o4) := by
  have s1 : w.heap.size + 1 = (w.alloc o1).heap.size := by simp
  have s2 : w.heap.size + 1 + 1 = ((w.alloc o1).alloc o2).heap.size := by simp
  have s3 : w.heap.size + 1 + 1 + 1 = (((w.alloc o1).alloc o2).alloc o3).heap.size := by simp
  refine ⟨alloc_keep (alloc_keep (alloc_keep (heap_alloc_new w o1))), ?_, ?_, ?_, ?_⟩
  · rw [s1]; exact alloc_keep (alloc_keep (heap_alloc_new _ o2))
  · rw [s2]; exact alloc_keep (heap_alloc_new _ o3)
  · rw [s3]; exact heap_alloc_new _ o4
  · exact ((((Below.refl _ _).alloc (Nat.le_refl _) _).alloc (by simp) _).alloc (by simp; omega) _).alloc (by simp; omega) _
set_option maxRecDepth 100000 in
set_option maxHeartbeats 4000000 in
theorem shown8_any (w : World) : Calls Try.prog 10 #[] w fun e w' => e = .returned (.bool true) ∧ Below w.heap.size w w' := by
  have hE : packE [] = 0 := packE_of right_nil (by rw [pack_nil_len]; omega)
  have CP : Hid (∀ W, Calls Try.prog 18 #[.slice none 0 0] W fun e w' => e = .returned (.tuple #[.string (packS []), .int .i64 0]) ∧ Below W.heap.size W w') := fun W => by
    have := pack_two [] _ W (slF_nil W) (fun f hf => by cases hf) (by simp)
    rw [hE] at this; exact this
  have hz : (packS []).size = 3072 := by rw [packS_zero hE, Fr.bs_size, packed_len [] (by rw [pack_nil_len]; omega)]
  have hd : dirL [] = [67, 68, 88, 73, 0] := by unfold dirL; rw [Fr.varL_lo _ (by simp)]; rfl
  have h9 : (packS []).extract 0 9 = ⟨#[67, 68, 88, 73, 0]⟩ ++ bs (fixL (crcL [67, 68, 88, 73, 0])) := by
    have e0 : (⟨#[67, 68, 88, 73, 0]⟩ : ByteArray) = bs [67, 68, 88, 73, 0] := rfl
    rw [packS_zero hE, Fr.ext_take, bs_list, e0, bs_app]
    congr 1
    unfold packed
    rw [List.take_left' pack_nil_len]
    unfold packL
    rw [hd]
  have hu : unpR (packS []).data.toList = ([], 0) := by rw [packS_zero hE, bs_list]; exact unpR_packed [] right_nil (by rw [pack_nil_len]; omega)
  have CU : Hid (∀ W, Calls Try.prog 20 #[.string (packS [])] W fun e w' => ∃ v, e = .returned (.tuple #[v, .int .i64 0]) ∧ Hid (OwnF 50 W.heap.size w' v []) ∧ Hid (Below W.heap.size W w')) := fun W => by
    have := unpack_any (packS []) W (by omega)
    rw [hu] at this; exact this
  have hcr := Fr.crcL_lt [67, 68, 88, 73, 0]
  have CC : Hid (∀ g (W : World), W.heap[g]? = some (.cells #[.string ⟨#[67, 68, 88, 73, 0]⟩] 9 (0, 0)) → Calls Try.prog 25 #[.slice (some ⟨g, 0, none⟩) 1 1] W fun e w' => e = .returned (.int .u32 ((crcL [67, 68, 88, 73, 0] : Nat) : Int)) ∧ W = w') := fun g W hg => crc_one ⟨#[67, 68, 88, 73, 0]⟩ (by show 5 ≤ 1000000; omega) g W hg
  have CF := Lib.hid fun W => Fr.fixed_any (crcL [67, 68, 88, 73, 0]) W hcr
  have hT : (bs (fixL (crcL [67, 68, 88, 73, 0]))).size = 4 := by rw [Fr.bs_size]; rfl
  have CN1 : Hid (∀ W, Calls Try.prog 12 #[.string ⟨#[97, 46, 49, 45, 95]⟩] W fun e w' => e = .returned (.bool true) ∧ w' = W) := fun W => by
    have := name_any ⟨#[97, 46, 49, 45, 95]⟩ W (by show 5 ≤ 9223372036854775807; omega)
    rw [show okName ⟨#[97, 46, 49, 45, 95]⟩ = true by decide +kernel] at this; exact this
  have CN2 : Hid (∀ W, Calls Try.prog 12 #[.string ⟨#[65]⟩] W fun e w' => e = .returned (.bool false) ∧ w' = W) := fun W => by
    have := name_any ⟨#[65]⟩ W (by show 1 ≤ 9223372036854775807; omega)
    rw [show okName ⟨#[65]⟩ = false by decide +kernel] at this; exact this
  have CN3 : Hid (∀ W, Calls Try.prog 12 #[.string ⟨#[]⟩] W fun e w' => e = .returned (.bool false) ∧ w' = W) := fun W => by
    have := name_any ⟨#[]⟩ W (by show 0 ≤ 9223372036854775807; omega)
    rw [show okName ⟨#[]⟩ = false by decide +kernel] at this; exact this
  have CR : Hid (∀ W v L a b, SlF W v L → (L = one8 ∨ L = two8) → I64 a → I64 b → Calls Try.prog 14 #[v, .int .i64 a, .int .i64 b] W fun e w' => e = .returned (.bool (rtB L a b)) ∧ Below W.heap.size W w') := fun W v L a b h hL ha hb => by
    have hN : Nums64 L := by
      rcases hL with rfl | rfl
      · exact nums_one 300 (by unfold I64; omega)
      · exact nums_one 513 (by unfold I64; omega)
    have hn : L.length = 1 := by rcases hL with rfl | rfl <;> rfl
    exact right_any L v a b W h hN (by omega) ha hb
  have r1 : rtB one8 64 128 = true := by decide +kernel
  have r2 : rtB one8 65 128 = false := by decide +kernel
  have r3 : rtB two8 64 128 = false := by decide +kernel
  have R1 := Lib.hid r1; have R2 := Lib.hid r2; have R3 := Lib.hid r3
  have H9 := Lib.hid h9
  clear r1 r2 r3 h9 hu hE hd hcr
  generalize packS [] = s at *
  generalize bs (fixL (crcL [67, 68, 88, 73, 0])) = t4 at *
  generalize crcL [67, 68, 88, 73, 0] = cr at *
  go_enter Try.func10, Try.ntmps10
  go_wp2_with fail
  refine (CP.out _).mono ?_
  rintro e w1 ⟨rfl, hb1⟩
  have HB1 := Lib.hid hb1; clear hb1
  go_wp2_with fail
  refine (CC.out _ _ (heap_alloc_new _ _)).mono ?_
  rintro e w2 ⟨rfl, rfl⟩
  have HB2 : Hid (Below w.heap.size w (w1.alloc (.cells #[.string ⟨#[67, 68, 88, 73, 0]⟩] 9))) := HB1.out.alloc HB1.out.size _
  go_wp2_with fail
  refine (CF.out _).mono ?_
  rintro e w3 ⟨rfl, hb3⟩
  have HB3 : Hid (Below w.heap.size w w3) := HB2.out.trans (hb3.mono HB2.out.size)
  clear hb3 HB1 HB2 CC CF CP
  have hadd := fun (W : World) => run_string_add_sum (P := Try.prog) W ⟨#[67, 68, 88, 73, 0]⟩ t4 (by have : (⟨#[67, 68, 88, 73, 0]⟩ : ByteArray).size = 5 := rfl; omega)
  obtain ⟨T9, hT9⟩ : ∃ T9, (⟨#[67, 68, 88, 73, 0]⟩ : ByteArray) ++ t4 = T9 := ⟨_, rfl⟩
  rw [hT9] at hadd H9
  have hs9 : s.extract 0 9 = T9 := H9.out
  clear hT9 hT
  go_wp2_with fail
  have HW := Lib.hid (four_alloc w3 (.cells #[.int .i64 64, .int .i64 2] 52) (.cells #[.string ⟨#[97]⟩, .bool false, .int .i64 300, .slice (some ⟨w3.heap.size, 0, none⟩) 1 1] 50) (.cells #[.int .i64 64, .int .i64 2] 52) (.cells #[.string ⟨#[97]⟩, .bool false, .int .i64 513, .slice (some ⟨w3.heap.size + 1 + 1, 0, none⟩) 1 1] 50))
  obtain ⟨W4, hW4⟩ : ∃ W, W = (((w3.alloc (.cells #[.int .i64 64, .int .i64 2] 52)).alloc (.cells #[.string ⟨#[97]⟩, .bool false, .int .i64 300, .slice (some ⟨w3.heap.size, 0, none⟩) 1 1] 50)).alloc (.cells #[.int .i64 64, .int .i64 2] 52)).alloc (.cells #[.string ⟨#[97]⟩, .bool false, .int .i64 513, .slice (some ⟨w3.heap.size + 1 + 1, 0, none⟩) 1 1] 50) := ⟨_, rfl⟩
  rw [← hW4] at HW ⊢
  obtain ⟨e1, e2, e3, e4, hb4⟩ := HW.out
  have HS1 : Hid (SlF W4 (.slice (some ⟨w3.heap.size + 1, 0, none⟩) 1 1) one8) := slF_lit e2 e1
  have HS2 : Hid (SlF W4 (.slice (some ⟨w3.heap.size + 1 + 1 + 1, 0, none⟩) 1 1) two8) := slF_lit e4 e3
  have HB4 : Hid (Below w.heap.size w W4) := HB3.out.trans (hb4.mono HB3.out.size)
  clear hW4 HW e1 e2 e3 e4 hb4 HB3 hadd
  refine (CU.out W4).mono ?_
  rintro e w5 ⟨v, rfl, HV, HB5⟩
  obtain ⟨vo, vc, hv⟩ := HV.out.shape
  subst hv
  have HS15 := Lib.hid (HS1.out.below HB5.out)
  have HS25 := Lib.hid (HS2.out.below HB5.out)
  have HB6 : Hid (Below w.heap.size w w5) := HB4.out.trans (HB5.out.mono HB4.out.size)
  clear HV HS1 HS2 HB4 HB5 CU
  have i9 : (9 : Int) ≤ (s.size : Int) := by omega
  have hzz : ((s.size : Int) == 3072) = true := beq_iff_eq.2 (by omega)
  go_wp2_with fail
  refine (CN1.out _).mono ?_
  rintro e w6 ⟨rfl, rfl⟩
  go_wp2_with fail
  refine (CN2.out _).mono ?_
  rintro e w7 ⟨rfl, rfl⟩
  go_wp2_with fail
  refine (CN3.out _).mono ?_
  rintro e w8 ⟨rfl, rfl⟩
  go_wp2_with fail
  refine (CR.out _ _ one8 _ _ HS15.out (.inl rfl) (by unfold I64; omega) (by unfold I64; omega)).mono ?_
  rintro e w9 ⟨rfl, hb9⟩
  rw [R1.out]
  have HS19 := Lib.hid (HS15.out.below hb9)
  have HS29 := Lib.hid (HS25.out.below hb9)
  have HB9 : Hid (Below w.heap.size w w9) := HB6.out.trans (hb9.mono HB6.out.size)
  clear hb9 HS15 HS25 HB6
  go_wp2_with fail
  refine (CR.out _ _ one8 _ _ HS19.out (.inl rfl) (by unfold I64; omega) (by unfold I64; omega)).mono ?_
  rintro e w10 ⟨rfl, hb10⟩
  rw [R2.out]
  have HS30 := Lib.hid (HS29.out.below hb10)
  have HB10 : Hid (Below w.heap.size w w10) := HB9.out.trans (hb10.mono HB9.out.size)
  clear hb10 HS19 HS29 HB9
  go_wp2_with fail
  refine (CR.out _ _ two8 _ _ HS30.out (.inr rfl) (by unfold I64; omega) (by unfold I64; omega)).mono ?_
  rintro e w11 ⟨rfl, hb11⟩
  rw [R3.out]
  have HB11 : Hid (Below w.heap.size w w11) := HB10.out.trans (hb11.mono HB10.out.size)
  clear hb11 HS30 HB10
  go_wp2_with fail
  go_ret
  exact ⟨rfl, HB11.out⟩
end Go.Proofs.Ytfmnbabkdpiboaa
/- What as answers: a directory as the document has it. -/
namespace Go.Proofs.Ytfmnbabkdpiboaa
open Go.RowKit
open Fr (bs str_len below_drewN)

/-- Small enough to be gone through. -/
def fewB (f : Fl) : Bool := decide (f.name.size ≤ 200) && decide (f.ext.length ≤ 40)
def asB (L : List Fl) : Bool := decide (L.length ≤ 100) && L.all fewB
theorem rowF_sl {T : TypeId} {B : Nat} {w : World} {v : Value} {L : List Fl} {P : List (Fl × Value)} (hP : P.map (·.1) = L) (h2 : w.ownsRow B T 4 v L.length (flatF P)) (h3 : ∀ p ∈ P, SlE w p.2 p.1.ext) : SlF w v L := by
  subst hP
  rw [List.length_map] at h2
  rcases h2.2 with ⟨hv, hn⟩ | ⟨g, cap, cur, hv, hbg, hg, hc, _⟩
  · have e : P = [] := List.eq_nil_of_length_eq_zero hn
    subst e
    exact ⟨none, 0, hv, Nat.le_refl _, .inl rfl⟩
  · refine ⟨_, cap, by rw [List.length_map]; exact hv, by rw [List.length_map]; exact hc, .inr ⟨g, 0, rfl, (Array.getElem?_eq_some_iff.1 hg).1, fun j hj => ?_⟩⟩
    rw [List.length_map] at hj
    subst hv
    have hat : ∀ k, k < 4 → w.cell? ⟨g, 0 + j * 4 + k, none⟩ = [Value.string P[j].1.name, .bool P[j].1.shut, .int .i64 P[j].1.size, P[j].2][k]? := fun k hk => by
      rw [Nat.zero_add, World.ownsRow.cellAt h2 (j * 4 + k) (by omega), flatF_at P j hj k hk]
    have a0 := hat 0 (by omega); have a1 := hat 1 (by omega); have a2 := hat 2 (by omega); have a3 := hat 3 (by omega)
    rw [List.getElem_map]
    exact ⟨P[j].2, a0, a1, a2, a3, h3 _ (List.getElem_mem hj)⟩
theorem _root_.Go.Proofs.Try.infoRF : (Try.prog.info? 58).map (fun i => (i.zero, i.size, i.bytes)) = some (some (.agg #[.string ⟨#[]⟩, .bool false, .int .i64 0, .slice none 0 0]), 4, 56) := by kernel_rfl
theorem all_takeF {α : Type} (p : α → Bool) (L : List α) (k : Nat) (h : k < L.length) : (L.take (k + 1)).all p = ((L.take k).all p && p L[k]) := by
  rw [List.take_succ_eq_append_getElem h, List.all_append]; simp
def IfSl (b : Bool) (w : World) (v : Value) (L : List Fl) : Prop := b = true → SlF w v L
set_option maxRecDepth 100000 in
set_option maxHeartbeats 8000000 in
theorem as_any (L : List Fl) (v : Value) (w : World) (h : SlF w v L) (hn : L.length ≤ 9223372036854775807) :
    Calls Try.prog 11 #[v] w fun e w' => ∃ v2, e = .returned (.tuple #[v2, .bool (asB L)]) ∧ Hid (IfSl (asB L) w' v2 L) ∧ Hid (Below w.heap.size w w') := by
  obtain ⟨i0, hi, hz0, hz1, hz2⟩ := info_parts Try.infoRF
  have HZ2 := Lib.hid hz2; clear hz2
  obtain ⟨ao, c, rfl, hat⟩ := h.shape
  have HAt := Lib.hid hat; clear hat h
  have HB := Lib.hid (Below.refl w.heap.size w)
  have HR : Hid (asB L = (decide (L.length ≤ 100) && L.all fewB)) := rfl
  obtain ⟨r, hr⟩ : ∃ r, asB L = r := ⟨_, rfl⟩
  rw [hr] at HR ⊢
  clear hr
  obtain ⟨n, hl⟩ : ∃ n, L.length = n := ⟨_, rfl⟩
  have HN := Lib.hid hl
  rw [hl] at hn HR ⊢
  clear hl
  by_cases h64 : 100 < n
  · have z1 : (100 : Int) < (n : Int) := by omega
    obtain rfl : r = false := by rw [HR.out]; simp; omega
    clear HR
    go_enter Try.func11, Try.ntmps11
    go_wp2
    go_ret2
    exact ⟨_, rfl, (fun h => by cases h), HB⟩
  · have z1 : ¬ ((100 : Int) < (n : Int)) := by omega
    have HR2 : Hid (r = L.all fewB) := by show _ = _; rw [HR.out]; simp; omega
    clear HR
    go_enter Try.func11, Try.ntmps11
    go_wp2_with fail
    go_loopw [4, 5] (fun fv kv wr => ∃ (k : Nat) (P : List (Fl × Value)), k ≤ n ∧ kv = .int .i64 (k : Int) ∧ Hid (P.map (·.1) = L.take k) ∧ Hid (wr.ownsRow w.heap.size 58 4 fv k (flatF P)) ∧ Hid (∀ p ∈ P, SlE w p.2 p.1.ext) ∧ Hid ((L.take k).all fewB = true) ∧ Hid (Below w.heap.size w wr)) (fun _ kv _ => n - (intOf kv).toNat)
    case atStart => exact ⟨0, [], Nat.zero_le _, rfl, rfl, World.ownsRow_nil _ _ _ _, (show ∀ p ∈ ([] : List (Fl × Value)), SlE w p.2 p.1.ext from fun p hp => by cases hp), rfl, HB⟩
    case round =>
      obtain ⟨k, P, hk, rfl, HP, HO, HE, HF, HBr⟩ := hrel
      have hbr := HBr.out.size
      obtain ⟨ua, uc, huv⟩ := own_shapeE HO.out
      subst huv
      by_cases hlt : k < n
      · have hkz : (k : Int) < (n : Int) := by omega
        have hkL : k < L.length := by rw [HN.out]; exact hlt
        obtain ⟨bb, off, ve, rfl, hF, hFe⟩ := HAt.out _ HBr.out k hkL
        obtain ⟨eo, ec, hve, _⟩ := hFe.shape
        subst hve
        have HSE := Lib.hid hFe
        obtain ⟨x0, x1, x2, x3, hext⟩ := hF
        clear hext hFe
        have HTk := Lib.hid (List.take_succ_eq_append_getElem hkL)
        have HAk := Lib.hid (all_takeF fewB L k hkL)
        have HAl : Hid (fewB L[k] = false → r = false) := fun h => by
          rw [HR2.out]
          cases e : L.all fewB with
          | false => rfl
          | true => have := List.all_eq_true.1 e L[k] (List.getElem_mem hkL); rw [h] at this; cases this
        generalize hLk : L[k] = f at *
        clear hkL hLk
        have HFw : Hid (fewB f = (decide (f.name.size ≤ 200) && decide (f.ext.length ≤ 40))) := rfl
        obtain ⟨nm, sh, sz, E⟩ := f
        dsimp only at x0 x1 x2 x3 HSE HFw
        obtain ⟨m, hm⟩ : ∃ m, E.length = m := ⟨_, rfl⟩
        rw [hm] at x3 HFw
        have HM := Lib.hid hm; clear hm
        by_cases h200 : 200 < nm.size
        · have z2 : (200 : Int) < (nm.size : Int) := by omega
          obtain rfl : r = false := HAl.out (by rw [HFw.out]; simp; omega)
          clear HAl HTk HAk
          go_wp2_with fail
          go_ret2
          exact ⟨_, rfl, (fun h => by cases h), HBr⟩
        · have z2 : ¬ (200 : Int) < (nm.size : Int) := by omega
          by_cases h40 : 40 < m
          · have z3 : (40 : Int) < (m : Int) := by omega
            obtain rfl : r = false := HAl.out (by rw [HFw.out]; simp; omega)
            clear HAl HTk HAk
            go_wp2_with fail
            go_ret2
            exact ⟨_, rfl, (fun h => by cases h), HBr⟩
          · have z3 : ¬ (40 : Int) < (m : Int) := by omega
            have HFk : Hid (fewB ⟨nm, sh, sz, E⟩ = true) := by show _ = _; rw [HFw.out]; simp; omega
            clear HAl
            go_wp2_with fail
            go_region_law (first
              | (refine step_append_own rfl (.tmp 31) (.tmp 53) 24 rfl w.heap.size 58 i0 (.agg #[.string ⟨#[]⟩, .bool false, .int .i64 0, .slice none 0 0]) 4 56 Try.underlying24 hi hz0 hz1 HZ2.out rfl (by omega) (.slice ua k uc) k (flatF P) (by kernel_rfl) ?own ⟨wr.heap.size, 0, none⟩ 1 1 [.string nm, .bool sh, .int .i64 sz, .slice eo m ec] (by kernel_rfl) rfl (four_cells (heap_alloc_new _ _)) (by simp [Value.oneCell']) (by unfold maxLen; omega) (by omega) ?base ?_
                 case own => exact (Go.Proofs.Ytfmnbabkdpiboaa.own_below HO.out (Below.refl _ _).drew).alloc _
                 case base => simp; omega
                 intro v1 w9 hown hgrow
                 obtain ⟨v1o, v1c, rfl⟩ := own_shapeE hown
                 have HV9 := Lib.hid hown
                 have HB9 : Hid (Below w.heap.size w w9) := ((HBr.out.drew).alloc hbr _).grown hgrow (by simp; omega) (fun q hq => (HO.out.lt q hq).1)
                 clear hown hgrow))
            all_goals
              have HP9 : Hid ((P ++ [((⟨nm, sh, sz, E⟩ : Fl), (.slice eo m ec : Value))]).map (·.1) = L.take (k + 1)) := by
                show _ = _
                rw [List.map_append, HP.out, HTk.out]; rfl
              have HO9 : Hid (w9.ownsRow w.heap.size 58 4 (.slice v1o (k + 1) v1c) (k + 1) (flatF (P ++ [((⟨nm, sh, sz, E⟩ : Fl), (.slice eo m ec : Value))]))) := by
                show World.ownsRow _ _ _ _ _ _ _
                rw [flatF_append]; exact HV9.out
              have HE9 : Hid (∀ p ∈ P ++ [((⟨nm, sh, sz, E⟩ : Fl), (.slice eo m ec : Value))], SlE w p.2 p.1.ext) := fun p hp => by
                rcases List.mem_append.1 hp with hp | hp
                · exact HE.out p hp
                · rw [List.mem_singleton.1 hp]
                  have := HSE.out
                  rw [HM.out] at this
                  exact this
              have HF9 : Hid ((L.take (k + 1)).all fewB = true) := by show _ = _; rw [HAk.out, HF.out, HFk.out]; rfl
              clear HV9 HP HO HE HF HTk HAk HFk HSE HM HFw
              go_wp2_with fail
              go_roundw
              case rel => exact ⟨k + 1, _, by omega, by go_num, HP9, HO9, HE9, HF9, HB9⟩
              case measure => simp [intOf]; omega
      · obtain rfl : k = n := by omega
        have hkz : ¬ (k : Int) < (k : Int) := by omega
        have hLt : L.take k = L := List.take_of_length_le (by rw [HN.out]; exact Nat.le_refl _)
        have hF := HF.out; have hP := HP.out
        rw [hLt] at hF hP
        obtain rfl : r = true := by rw [HR2.out, hF]
        have HSl : Hid (SlF wr (.slice ua k uc) L) := rowF_sl hP (by rw [HN.out]; exact HO.out) (fun p hp => (HE.out p hp).below HBr.out)
        clear HP HO HE HF hF hP hLt HR2
        go_wp2_with fail
        go_ret2
        exact ⟨_, rfl, (fun _ => HSl.out), HBr⟩
end Go.Proofs.Ytfmnbabkdpiboaa
/- same, of two slices that read as the same directory. -/
namespace Go.Proofs.Ytfmnbabkdpiboaa
open Go.RowKit
open Fr (bs str_len below_drewN)

/-- What a file's cells hold, in all worlds behind. -/
theorem SlF.cells {w : World} {v : Value} {L : List Fl} (h : SlF w v L) {i : Nat} (hi : i < L.length) : ∃ b off c eo ec, v = .slice (some ⟨b, off, none⟩) L.length c ∧ ∀ W, Below w.heap.size w W →
    (W.cell? ⟨b, off + i * 4, none⟩ = some (.string (L[i]).name) ∧ W.cell? ⟨b, off + i * 4 + 1, none⟩ = some (.bool (L[i]).shut) ∧ W.cell? ⟨b, off + i * 4 + 2, none⟩ = some (.int .i64 (L[i]).size) ∧ W.cell? ⟨b, off + i * 4 + 3, none⟩ = some (.slice eo (L[i]).ext.length ec)) ∧
    ∀ j (hj : j < (L[i]).ext.length), ∃ be oe, eo = some ⟨be, oe, none⟩ ∧ W.cell? ⟨be, oe + j * 2, none⟩ = some (.int .i64 ((L[i]).ext[j]).1) ∧ W.cell? ⟨be, oe + j * 2 + 1, none⟩ = some (.int .i64 ((L[i]).ext[j]).2) := by
  obtain ⟨b, off, c, rfl, hc, hb, hF⟩ := h.at hi
  obtain ⟨ve, hf⟩ := hF i hi
  obtain ⟨eo, ec, rfl, hae⟩ := hf.ext.shape
  exact ⟨b, off, c, eo, ec, rfl, fun W hW => by
    have h2 := hf.below hW hb
    exact ⟨⟨h2.c0, h2.c1, h2.c2, h2.c3⟩, fun j hj => hae W hW j hj⟩⟩
set_option maxRecDepth 100000 in
set_option maxHeartbeats 8000000 in
theorem same_any (L : List Fl) (va vb : Value) (w : World) (ha : SlF w va L) (hb : SlF w vb L) (hn : L.length ≤ 100000) (hE : ∀ f ∈ L, f.ext.length ≤ 100000) :
    Calls Try.prog 22 #[va, vb] w fun e w' => e = .returned (.bool true) ∧ Below w.heap.size w w' := by
  have HA := Lib.hid fun i (hi : i < L.length) => ha.cells hi
  have HB := Lib.hid fun i (hi : i < L.length) => hb.cells hi
  obtain ⟨ao, c, rfl, _⟩ := ha
  obtain ⟨ao', c', rfl, _⟩ := hb
  have HEx := Lib.hid hE; clear hE
  obtain ⟨n, hl⟩ : ∃ n, L.length = n := ⟨_, rfl⟩
  have HN := Lib.hid hl
  rw [hl] at hn ⊢
  have hnn : ((n : Int) != (n : Int)) = false := by simp
  clear hl
  go_enter Try.func22, Try.ntmps22
  go_wp2_with fail
  go_loopw [5] (fun iv wr => ∃ i : Nat, i ≤ n ∧ iv = .int .i64 (i : Int) ∧ Hid (Below w.heap.size w wr)) (fun iv _ => n - (intOf iv).toNat)
  case atStart => exact ⟨0, Nat.zero_le _, rfl, Below.refl _ _⟩
  case round =>
    obtain ⟨i, hi, rfl, HBr⟩ := hrel
    have hbr := HBr.out.size
    by_cases hlt : i < n
    · have hiz : (i : Int) < (n : Int) := by omega
      have hiL : i < L.length := by rw [HN.out]; exact hlt
      obtain ⟨b, off, c1, eo, ec, hv, hat⟩ := HA.out i hiL
      obtain ⟨b', off', c2, eo', ec', hv', hat'⟩ := HB.out i hiL
      obtain ⟨rfl, rfl⟩ : ao = some ⟨b, off, none⟩ ∧ c = c1 := by simpa using hv
      obtain ⟨rfl, rfl⟩ : ao' = some ⟨b', off', none⟩ ∧ c' = c2 := by simpa using hv'
      clear hv hv'
      have hfe := HEx.out _ (List.getElem_mem hiL)
      generalize L[i] = f at *
      clear hiL
      obtain ⟨nm, sh, sz, E⟩ := f
      dsimp only at hat hat' hfe
      obtain ⟨m, hm⟩ : ∃ m, E.length = m := ⟨_, rfl⟩
      have HM := Lib.hid hm
      rw [hm] at hfe
      have HC : Hid (∀ W, Below w.heap.size w W → W.cell? ⟨b, off + i * 4, none⟩ = some (.string nm) ∧ W.cell? ⟨b, off + i * 4 + 1, none⟩ = some (.bool sh) ∧ W.cell? ⟨b, off + i * 4 + 2, none⟩ = some (.int .i64 sz) ∧ W.cell? ⟨b, off + i * 4 + 3, none⟩ = some (.slice eo m ec)) := fun W hW => by rw [← hm]; exact (hat W hW).1
      have HC' : Hid (∀ W, Below w.heap.size w W → W.cell? ⟨b', off' + i * 4, none⟩ = some (.string nm) ∧ W.cell? ⟨b', off' + i * 4 + 1, none⟩ = some (.bool sh) ∧ W.cell? ⟨b', off' + i * 4 + 2, none⟩ = some (.int .i64 sz) ∧ W.cell? ⟨b', off' + i * 4 + 3, none⟩ = some (.slice eo' m ec')) := fun W hW => by rw [← hm]; exact (hat' W hW).1
      have HJ := Lib.hid fun W hW j hj => (hat W hW).2 j hj
      have HJ' := Lib.hid fun W hW j hj => (hat' W hW).2 j hj
      clear hat hat' hm
      obtain ⟨x0, x1, x2, x3⟩ := HC.out _ HBr.out
      obtain ⟨y0, y1, y2, y3⟩ := HC'.out _ HBr.out
      have hq0 : (nm.toList == nm.toList) = true := by simp
      have hq1 : (sh != sh) = false := by simp
      have hq2 : (sz != sz) = false := by simp
      have hq3 : ((m : Int) != (m : Int)) = false := by simp
      go_wp2_with fail
      go_quiet (fail)
      clear x0 x1 x2 x3 y0 y1 y2 y3
      have HBd : Hid (Below w.heap.size w (wr.drewN nq)) := below_drewN HBr.out nq
      generalize wr.drewN nq = wd at *
      clear HBr
      go_wp2_with fail
      go_loopw [6] (fun jv wr => ∃ j : Nat, j ≤ m ∧ jv = .int .i64 (j : Int) ∧ Hid (Below w.heap.size w wr)) (fun jv _ => m - (intOf jv).toNat)
      case atStart => exact ⟨0, Nat.zero_le _, rfl, HBd⟩
      case round =>
        obtain ⟨j, hj, rfl, HBq⟩ := hrel
        clear HBd hbr
        obtain ⟨x0, x1, x2, x3⟩ := HC.out _ HBq.out
        obtain ⟨y0, y1, y2, y3⟩ := HC'.out _ HBq.out
        clear x0 x1 x2 y0 y1 y2
        by_cases hjm : j < m
        · have hjz : (j : Int) < (m : Int) := by omega
          have hjE : j < E.length := by rw [HM.out]; exact hjm
          obtain ⟨be, oe, rfl, z0, z1⟩ := HJ.out _ HBq.out j hjE
          obtain ⟨be', oe', rfl, v0, v1⟩ := HJ'.out _ HBq.out j hjE
          generalize E[j] = x at *
          clear hjE
          obtain ⟨xs, xc⟩ := x
          dsimp only at z0 z1 v0 v1
          have hq4 : (xs != xs) = false := by simp
          have hq5 : (xc != xc) = false := by simp
          go_wp2_with fail
          go_quiet (fail)
          have HBn : Hid (Below w.heap.size w (wr.drewN nq)) := below_drewN HBq.out nq
          clear x3 y3 z0 z1 v0 v1
          go_wp2_with fail
          go_roundw
          case rel => exact ⟨j + 1, by omega, by go_num, HBn⟩
          case measure => simp [intOf]; omega
        · obtain rfl : j = m := by omega
          have hjz : ¬ (j : Int) < (j : Int) := by omega
          go_wp2_with fail
          go_roundw
          case rel => exact ⟨i + 1, by omega, by go_num, HBq⟩
          case measure => simp [intOf]; omega
    · obtain rfl : i = n := by omega
      have hiz : ¬ (i : Int) < (i : Int) := by omega
      go_wp2_with fail
      go_ret
      exact ⟨rfl, HBr.out⟩
end Go.Proofs.Ytfmnbabkdpiboaa
/- The document's bytes of a directory. -/
namespace Go.Proofs.Ytfmnbabkdpiboaa
open Go.RowKit
open Fr (below_drewN varL textL bs fixL crcL)

set_option maxRecDepth 100000 in
set_option maxHeartbeats 2000000 in
theorem rnumber_any (x : Int) (w : World) (h0 : 0 ≤ x) (h1 : x < 9223372036854775808) : Calls Try.prog 54 #[.int .i64 x] w fun e w' => e = .returned (.string (bs (varL x.toNat))) ∧ Below w.heap.size w w' := by
  obtain ⟨n, rfl⟩ : ∃ n : Nat, x = (n : Int) := ⟨x.toNat, by omega⟩
  have C := Lib.hid fun W => Fr.rvar_any n W (by omega)
  rw [Int.toNat_natCast]
  have hw : IntKind.u64.wrap (n : Int) = (n : Int) := by rw [IntKind.wrap_u64]; omega
  generalize bs (varL n) = t at *
  go_enter Try.func54, Try.ntmps54
  go_wp2_with fail
  refine (C.out _).mono ?_
  rintro e w1 ⟨rfl, hb⟩
  have HB := Lib.hid hb; clear hb
  go_wp2_with fail
  go_ret
  exact ⟨rfl, HB.out⟩
set_option maxRecDepth 100000 in
set_option maxHeartbeats 16000000 in
theorem rbytes_any (L : List Fl) (v : Value) (w : World) (h : SlF w v L) (hn : L.length ≤ 64) (hT : ∀ f ∈ L, Tiny f) : Calls Try.prog 37 #[v] w fun e w' => e = .returned (.string (bs (dirL L))) ∧ Below w.heap.size w w' := by
  have HCl := Lib.hid fun i (hi : i < L.length) => h.cells hi
  obtain ⟨ao, c, rfl, _⟩ := h.shape
  clear h
  have HTy := Lib.hid hT; clear hT
  obtain ⟨n, hl⟩ : ∃ n, L.length = n := ⟨_, rfl⟩
  have HN := Lib.hid hl
  have HD : Hid (dirL L = [67, 68, 88, 73] ++ varL n ++ L.flatMap fileL) := by show _ = _; unfold dirL; rw [hl]
  rw [hl] at hn ⊢
  clear hl
  obtain ⟨vf, hvf⟩ : ∃ vf : Int → ByteArray, ∀ x, vf x = bs (varL x.toNat) := ⟨fun x => bs (varL x.toNat), fun _ => rfl⟩
  have HVf := Lib.hid hvf
  have CN : Hid (∀ W x, 0 ≤ x → x < 9223372036854775808 → Calls Try.prog 54 #[.int .i64 x] W fun e w' => e = .returned (.string (vf x)) ∧ Below W.heap.size W w') := fun W x h0 h1 => by rw [hvf]; exact rnumber_any x W h0 h1
  have HV10 : Hid (∀ x : Int, 0 ≤ x → x < 9223372036854775808 → (vf x).size ≤ 10) := fun x h0 h1 => by rw [hvf, Fr.bs_size]; exact Fr.varL_ten _ (by omega)
  clear hvf
  have hvn := HV10.out (n : Int) (by omega) (by omega)
  have HA0 : Hid ((⟨#[67, 68, 88, 73]⟩ : ByteArray) ++ vf (n : Int) = bs ([67, 68, 88, 73] ++ varL n)) := by
    show _ = _
    rw [HVf.out, Int.toNat_natCast]; exact bs_app [67, 68, 88, 73] (varL n)
  have hadd := fun (W : World) => run_string_add_sum (P := Try.prog) W ⟨#[67, 68, 88, 73]⟩ (vf (n : Int)) (by have : (⟨#[67, 68, 88, 73]⟩ : ByteArray).size = 4 := rfl; omega)
  obtain ⟨A, hA⟩ : ∃ A, (⟨#[67, 68, 88, 73]⟩ : ByteArray) ++ vf (n : Int) = A := ⟨_, rfl⟩
  have hAs : A.size ≤ 14 := by
    rw [← hA, ByteArray.size_append]
    have : (⟨#[67, 68, 88, 73]⟩ : ByteArray).size = 4 := rfl
    omega
  rw [hA] at hadd HA0
  clear hA
  generalize hA0 : ([67, 68, 88, 73] ++ varL n) = A0 at *
  clear hA0
  go_enter Try.func37, Try.ntmps37
  go_wp2_with fail
  refine (CN.out _ _ (by omega) (by omega)).mono ?_
  rintro e w1 ⟨rfl, hb1⟩
  have HB1 : Hid (Below w.heap.size w w1) := hb1
  clear hb1
  go_wp2_with fail
  go_loopw [3, 4, 5, 6] (fun bv kv _ _ wr => ∃ (k : Nat) (t : ByteArray), k ≤ n ∧ kv = .int .i64 (k : Int) ∧ bv = .string t ∧ t.size ≤ 14 + 400 * k ∧ Hid (t = bs (A0 ++ (L.take k).flatMap fileL)) ∧ Hid (Below w.heap.size w wr)) (fun _ kv _ _ _ => n - (intOf kv).toNat)
  case atStart => exact ⟨0, A, Nat.zero_le _, rfl, rfl, by omega, by show _ = _; rw [HA0.out]; simp, HB1⟩
  case round =>
    clear HB1 hadd
    obtain ⟨k, t, hk, rfl, rfl, hts, HT, HBr⟩ := hrel
    have hbr := HBr.out.size
    by_cases hlt : k < n
    · have hkz : (k : Int) < (n : Int) := by omega
      have hkL : k < L.length := by rw [HN.out]; exact hlt
      obtain ⟨bb, off, c1, eo, ec, hv, hcell⟩ := HCl.out k hkL
      obtain ⟨rfl, rfl⟩ : ao = some ⟨bb, off, none⟩ ∧ c = c1 := by simpa using hv
      clear hv
      have hty := HTy.out L[k] (List.getElem_mem hkL)
      have HTk := Lib.hid (take_files L k hkL)
      obtain ⟨f, hf⟩ : ∃ f, L[k] = f := ⟨_, rfl⟩
      rw [hf] at hcell hty HTk
      clear hf hkL
      have HFe := Lib.hid (fileL_eq f)
      have HFl := Lib.hid (fileL_len f hty)
      have HEx := Lib.hid hty.ext
      have h16 := hty.few
      have hsh := hty.short
      obtain ⟨hz0, hz1⟩ := hty.size
      obtain ⟨nm, sh, sz, E⟩ := f
      dsimp only at hcell HFe HEx h16 hsh hz0 hz1
      obtain ⟨m, hm⟩ : ∃ m, E.length = m := ⟨_, rfl⟩
      have HM := Lib.hid hm
      have HC : Hid (∀ W, Below w.heap.size w W → W.cell? ⟨bb, off + k * 4, none⟩ = some (.string nm) ∧ W.cell? ⟨bb, off + k * 4 + 1, none⟩ = some (.bool sh) ∧ W.cell? ⟨bb, off + k * 4 + 2, none⟩ = some (.int .i64 sz) ∧ W.cell? ⟨bb, off + k * 4 + 3, none⟩ = some (.slice eo m ec)) := fun W hW => by rw [← hm]; exact (hcell W hW).1
      have HCe : Hid (∀ W, Below w.heap.size w W → ∀ j (hj : j < E.length), ∃ be oe, eo = some ⟨be, oe, none⟩ ∧ W.cell? ⟨be, oe + j * 2, none⟩ = some (.int .i64 (E[j]).1) ∧ W.cell? ⟨be, oe + j * 2 + 1, none⟩ = some (.int .i64 (E[j]).2)) := fun W hW => (hcell W hW).2
      rw [hm] at h16
      clear hcell hm
      have CT := Lib.hid fun W => Fr.rtext_any nm W (by omega)
      have htl : (textL nm.data.toList).length ≤ 34 := by
        unfold textL
        have h9 : nm.data.toList.length = nm.size := by simp
        have := Fr.varL_ten nm.data.toList.length (by omega)
        rw [List.length_append]; omega
      obtain ⟨TX, hTX⟩ : ∃ TX, bs (textL nm.data.toList) = TX := ⟨_, rfl⟩
      have hTs : TX.size ≤ 34 := by rw [← hTX, Fr.bs_size]; exact htl
      have HTX := Lib.hid hTX
      rw [hTX] at CT
      obtain ⟨x0, x1, x2, x3⟩ := HC.out _ HBr.out
      have HKp : Hid (∀ W W' : World, (Below w.heap.size w W ∧ W.cell? ⟨bb, off + k * 4, none⟩ = some (.string nm) ∧ W.cell? ⟨bb, off + k * 4 + 2, none⟩ = some (.int .i64 sz) ∧ W.cell? ⟨bb, off + k * 4 + 3, none⟩ = some (.slice eo m ec)) → Below W.heap.size W W' → (Below w.heap.size w W' ∧ W'.cell? ⟨bb, off + k * 4, none⟩ = some (.string nm) ∧ W'.cell? ⟨bb, off + k * 4 + 2, none⟩ = some (.int .i64 sz) ∧ W'.cell? ⟨bb, off + k * 4 + 3, none⟩ = some (.slice eo m ec))) := fun W W' h1 h2 => by
        have h3 : Below w.heap.size w W' := h1.1.trans (h2.mono h1.1.size)
        obtain ⟨y0, y1, y2, y3⟩ := HC.out _ h3
        exact ⟨h3, y0, y2, y3⟩
      have hv1 := HV10.out sz (by omega) (by omega)
      have hv2 := HV10.out (m : Int) (by omega) (by omega)
      have hv3 := HV10.out 0 (by omega) (by omega)
      have hv4 := HV10.out 1 (by omega) (by omega)
      have a1 : ¬ 9223372036854775807 < t.size + TX.size := by omega
      cases sh
      · have a2 : ¬ 9223372036854775807 < t.size + TX.size + (vf 0).size := by omega
        have a3 : ¬ 9223372036854775807 < t.size + TX.size + (vf 0).size + (vf sz).size := by omega
        have a4 : ¬ 9223372036854775807 < t.size + TX.size + (vf 0).size + (vf sz).size + (vf (m : Int)).size := by omega
        have HFq : Hid (fileL ⟨nm, false, sz, E⟩ = textL nm.data.toList ++ (varL 0 ++ varL sz.toNat ++ varL m) ++ E.flatMap extL) := by
          show _ = _; rw [HFe.out, HM.out]; rfl
        have HQ0 : Hid (t ++ TX ++ vf 0 ++ vf sz ++ vf (m : Int) = bs ((A0 ++ (L.take k).flatMap fileL) ++ (textL nm.data.toList ++ (varL 0 ++ varL sz.toNat ++ varL m)))) := by
          show _ = _
          rw [HT.out, ← HTX.out, HVf.out, HVf.out, HVf.out, bs_app, bs_app, bs_app, bs_app]
          congr 1
          simp only [List.append_assoc, Int.toNat_natCast]
          rfl
        clear HFe
        go_wp2_with fail
        go_region_held3 (fun W : World => Below w.heap.size w W ∧ W.cell? ⟨bb, off + k * 4, none⟩ = some (.string nm) ∧ W.cell? ⟨bb, off + k * 4 + 2, none⟩ = some (.int .i64 sz) ∧ W.cell? ⟨bb, off + k * 4 + 3, none⟩ = some (.slice eo m ec))
          (first | exact ⟨HBr.out.drew, x0, x2, x3⟩ | exact HKp.out _ _ (by assumption) (by assumption))
          (first
            | (go_at_call 55; refine (CT.out _).mono ?_; rintro e w' ⟨rfl, hbx⟩)
            | (go_at_call 54; refine (CN.out _ _ (by omega) (by omega)).mono ?_; rintro e w' ⟨rfl, hbx⟩))
        rename_i hHeld
        have HB5 : Hid (Below w.heap.size w w') := hHeld.1
        obtain ⟨q5, hq5⟩ : ∃ q5, t ++ TX ++ vf 0 ++ vf sz ++ vf (m : Int) = q5 := ⟨_, rfl⟩
        have hq5s : q5.size ≤ 14 + 400 * k + 74 := by
          rw [← hq5]; simp only [ByteArray.size_append]; omega
        rw [hq5] at HQ0 ⊢
        obtain ⟨B5, hB5⟩ : ∃ B5, (A0 ++ (L.take k).flatMap fileL) ++ (textL nm.data.toList ++ (varL 0 ++ varL sz.toNat ++ varL m)) = B5 := ⟨_, rfl⟩
        rw [hB5] at HQ0
        have HBB : Hid (B5 ++ E.flatMap extL = A0 ++ (L.take (k + 1)).flatMap fileL) := by
          show _ = _
          rw [← hB5, HTk.out, HFq.out]
          simp only [List.append_assoc]
        clear hHeld hq5 hB5 HKp a1 a2 a3 a4 HTk HFq HT HTX CT x0 x1 x2 x3 hbx HBr hbr
        go_wp2_with fail
        go_loopw [3, 6] (fun bv jv wr => ∃ (j : Nat) (q : ByteArray), j ≤ m ∧ jv = .int .i64 (j : Int) ∧ bv = .string q ∧ q.size ≤ 14 + 400 * k + 74 + 20 * j ∧ Hid (q = bs (B5 ++ (E.take j).flatMap extL)) ∧ Hid (Below w.heap.size w wr)) (fun _ jv _ => m - (intOf jv).toNat)
        case atStart => exact ⟨0, q5, Nat.zero_le _, rfl, rfl, by omega, by show _ = _; rw [HQ0.out]; simp, HB5⟩
        case round =>
          clear HQ0 HB5
          obtain ⟨j, q, hj, rfl, rfl, hqs, HQ, HBq⟩ := hrel
          obtain ⟨x0, x1, x2, x3⟩ := HC.out _ HBq.out
          clear x0 x1 x2
          by_cases hjm : j < m
          · have hjz : (j : Int) < (m : Int) := by omega
            have hjE : j < E.length := by rw [HM.out]; exact hjm
            obtain ⟨be, oe, rfl, y0, y1⟩ := HCe.out _ HBq.out j hjE
            have HEc : Hid (∀ W, Below w.heap.size w W → W.cell? ⟨be, oe + j * 2, none⟩ = some (.int .i64 (E[j]).1) ∧ W.cell? ⟨be, oe + j * 2 + 1, none⟩ = some (.int .i64 (E[j]).2)) := fun W hW => by
              obtain ⟨b', o', e, h1, h2⟩ := HCe.out _ hW j hjE
              obtain ⟨rfl, rfl⟩ : be = b' ∧ oe = o' := by simpa using e
              exact ⟨h1, h2⟩
            have hx := HEx.out E[j] (List.getElem_mem hjE)
            have HTj := Lib.hid (take_exts E j hjE)
            generalize E[j] = x at *
            clear hjE
            obtain ⟨xs, xc⟩ := x
            dsimp only at y0 y1 hx HEc
            obtain ⟨s0, s1, s2, s3⟩ := hx
            have HXL : Hid (extL (xs, xc) = varL xs.toNat ++ varL xc.toNat) := rfl
            have hv5 := HV10.out xs (by omega) (by omega)
            have hv6 := HV10.out xc (by omega) (by omega)
            have b1 : ¬ 9223372036854775807 < q.size + (vf xs).size := by omega
            have b2 : ¬ 9223372036854775807 < q.size + (vf xs).size + (vf xc).size := by omega
            have HKp : Hid (∀ W W' : World, (Below w.heap.size w W ∧ W.cell? ⟨bb, off + k * 4 + 3, none⟩ = some (.slice (some ⟨be, oe, none⟩) m ec) ∧ W.cell? ⟨be, oe + j * 2, none⟩ = some (.int .i64 xs) ∧ W.cell? ⟨be, oe + j * 2 + 1, none⟩ = some (.int .i64 xc)) → Below W.heap.size W W' → (Below w.heap.size w W' ∧ W'.cell? ⟨bb, off + k * 4 + 3, none⟩ = some (.slice (some ⟨be, oe, none⟩) m ec) ∧ W'.cell? ⟨be, oe + j * 2, none⟩ = some (.int .i64 xs) ∧ W'.cell? ⟨be, oe + j * 2 + 1, none⟩ = some (.int .i64 xc))) := fun W W' h1 h2 => by
              have h3 : Below w.heap.size w W' := h1.1.trans (h2.mono h1.1.size)
              obtain ⟨z0, z1, z2, z3⟩ := HC.out _ h3
              obtain ⟨u0, u1⟩ := HEc.out _ h3
              exact ⟨h3, z3, u0, u1⟩
            have HQ2 : Hid (q ++ vf xs ++ vf xc = bs (B5 ++ (E.take (j + 1)).flatMap extL)) := by
              show _ = _
              rw [HQ.out, HVf.out, HVf.out, bs_app, bs_app, HTj.out, HXL.out]
              congr 1
              simp only [List.append_assoc]
            have hqs2 : (q ++ vf xs ++ vf xc).size ≤ 14 + 400 * k + 74 + 20 * (j + 1) := by simp only [ByteArray.size_append]; omega
            clear HTj HXL HQ
            go_wp2_with fail
            go_region_held3 (fun W : World => Below w.heap.size w W ∧ W.cell? ⟨bb, off + k * 4 + 3, none⟩ = some (.slice (some ⟨be, oe, none⟩) m ec) ∧ W.cell? ⟨be, oe + j * 2, none⟩ = some (.int .i64 xs) ∧ W.cell? ⟨be, oe + j * 2 + 1, none⟩ = some (.int .i64 xc))
              (first | exact ⟨HBq.out.drew, x3, y0, y1⟩ | exact HKp.out _ _ (by assumption) (by assumption))
              (first
                | (go_at_call 54; refine (CN.out _ _ (by omega) (by omega)).mono ?_; rintro e w' ⟨rfl, hbx⟩))
            rename_i hHeld
            have HB7 : Hid (Below w.heap.size w w') := hHeld.1
            clear hHeld hbx HKp b1 b2 x3 y0 y1
            generalize q ++ vf xs ++ vf xc = q7 at *
            go_wp2_with fail
            go_roundw
            case rel => exact ⟨j + 1, q7, by omega, by go_num, rfl, hqs2, HQ2, HB7⟩
            case measure => simp [intOf]; omega
          · obtain rfl : j = m := by omega
            have hjz : ¬ (j : Int) < (j : Int) := by omega
            have HLF : Hid (q = bs (A0 ++ (L.take (k + 1)).flatMap fileL)) := by
              have hE : E.take j = E := List.take_of_length_le (by rw [HM.out]; exact Nat.le_refl _)
              show _ = _
              rw [HQ.out, hE, HBB.out]
            clear HQ HBB HEx HCe
            go_wp2_with fail
            go_roundw
            case rel => exact ⟨k + 1, q, by omega, by go_num, rfl, by omega, HLF, HBq⟩
            case measure => simp [intOf]; omega
      · have a2 : ¬ 9223372036854775807 < t.size + TX.size + (vf 1).size := by omega
        have a3 : ¬ 9223372036854775807 < t.size + TX.size + (vf 1).size + (vf sz).size := by omega
        have a4 : ¬ 9223372036854775807 < t.size + TX.size + (vf 1).size + (vf sz).size + (vf (m : Int)).size := by omega
        have HFq : Hid (fileL ⟨nm, true, sz, E⟩ = textL nm.data.toList ++ (varL 1 ++ varL sz.toNat ++ varL m) ++ E.flatMap extL) := by
          show _ = _; rw [HFe.out, HM.out]; rfl
        have HQ0 : Hid (t ++ TX ++ vf 1 ++ vf sz ++ vf (m : Int) = bs ((A0 ++ (L.take k).flatMap fileL) ++ (textL nm.data.toList ++ (varL 1 ++ varL sz.toNat ++ varL m)))) := by
          show _ = _
          rw [HT.out, ← HTX.out, HVf.out, HVf.out, HVf.out, bs_app, bs_app, bs_app, bs_app]
          congr 1
          simp only [List.append_assoc, Int.toNat_natCast]
          rfl
        clear HFe
        go_wp2_with fail
        go_region_held3 (fun W : World => Below w.heap.size w W ∧ W.cell? ⟨bb, off + k * 4, none⟩ = some (.string nm) ∧ W.cell? ⟨bb, off + k * 4 + 2, none⟩ = some (.int .i64 sz) ∧ W.cell? ⟨bb, off + k * 4 + 3, none⟩ = some (.slice eo m ec))
          (first | exact ⟨HBr.out.drew, x0, x2, x3⟩ | exact HKp.out _ _ (by assumption) (by assumption))
          (first
            | (go_at_call 55; refine (CT.out _).mono ?_; rintro e w' ⟨rfl, hbx⟩)
            | (go_at_call 54; refine (CN.out _ _ (by omega) (by omega)).mono ?_; rintro e w' ⟨rfl, hbx⟩))
        rename_i hHeld
        have HB5 : Hid (Below w.heap.size w w') := hHeld.1
        obtain ⟨q5, hq5⟩ : ∃ q5, t ++ TX ++ vf 1 ++ vf sz ++ vf (m : Int) = q5 := ⟨_, rfl⟩
        have hq5s : q5.size ≤ 14 + 400 * k + 74 := by
          rw [← hq5]; simp only [ByteArray.size_append]; omega
        rw [hq5] at HQ0 ⊢
        obtain ⟨B5, hB5⟩ : ∃ B5, (A0 ++ (L.take k).flatMap fileL) ++ (textL nm.data.toList ++ (varL 1 ++ varL sz.toNat ++ varL m)) = B5 := ⟨_, rfl⟩
        rw [hB5] at HQ0
        have HBB : Hid (B5 ++ E.flatMap extL = A0 ++ (L.take (k + 1)).flatMap fileL) := by
          show _ = _
          rw [← hB5, HTk.out, HFq.out]
          simp only [List.append_assoc]
        clear hHeld hq5 hB5 HKp a1 a2 a3 a4 HTk HFq HT HTX CT x0 x1 x2 x3 hbx HBr hbr
        go_wp2_with fail
        go_loopw [3, 6] (fun bv jv wr => ∃ (j : Nat) (q : ByteArray), j ≤ m ∧ jv = .int .i64 (j : Int) ∧ bv = .string q ∧ q.size ≤ 14 + 400 * k + 74 + 20 * j ∧ Hid (q = bs (B5 ++ (E.take j).flatMap extL)) ∧ Hid (Below w.heap.size w wr)) (fun _ jv _ => m - (intOf jv).toNat)
        case atStart => exact ⟨0, q5, Nat.zero_le _, rfl, rfl, by omega, by show _ = _; rw [HQ0.out]; simp, HB5⟩
        case round =>
          clear HQ0 HB5
          obtain ⟨j, q, hj, rfl, rfl, hqs, HQ, HBq⟩ := hrel
          obtain ⟨x0, x1, x2, x3⟩ := HC.out _ HBq.out
          clear x0 x1 x2
          by_cases hjm : j < m
          · have hjz : (j : Int) < (m : Int) := by omega
            have hjE : j < E.length := by rw [HM.out]; exact hjm
            obtain ⟨be, oe, rfl, y0, y1⟩ := HCe.out _ HBq.out j hjE
            have HEc : Hid (∀ W, Below w.heap.size w W → W.cell? ⟨be, oe + j * 2, none⟩ = some (.int .i64 (E[j]).1) ∧ W.cell? ⟨be, oe + j * 2 + 1, none⟩ = some (.int .i64 (E[j]).2)) := fun W hW => by
              obtain ⟨b', o', e, h1, h2⟩ := HCe.out _ hW j hjE
              obtain ⟨rfl, rfl⟩ : be = b' ∧ oe = o' := by simpa using e
              exact ⟨h1, h2⟩
            have hx := HEx.out E[j] (List.getElem_mem hjE)
            have HTj := Lib.hid (take_exts E j hjE)
            generalize E[j] = x at *
            clear hjE
            obtain ⟨xs, xc⟩ := x
            dsimp only at y0 y1 hx HEc
            obtain ⟨s0, s1, s2, s3⟩ := hx
            have HXL : Hid (extL (xs, xc) = varL xs.toNat ++ varL xc.toNat) := rfl
            have hv5 := HV10.out xs (by omega) (by omega)
            have hv6 := HV10.out xc (by omega) (by omega)
            have b1 : ¬ 9223372036854775807 < q.size + (vf xs).size := by omega
            have b2 : ¬ 9223372036854775807 < q.size + (vf xs).size + (vf xc).size := by omega
            have HKp : Hid (∀ W W' : World, (Below w.heap.size w W ∧ W.cell? ⟨bb, off + k * 4 + 3, none⟩ = some (.slice (some ⟨be, oe, none⟩) m ec) ∧ W.cell? ⟨be, oe + j * 2, none⟩ = some (.int .i64 xs) ∧ W.cell? ⟨be, oe + j * 2 + 1, none⟩ = some (.int .i64 xc)) → Below W.heap.size W W' → (Below w.heap.size w W' ∧ W'.cell? ⟨bb, off + k * 4 + 3, none⟩ = some (.slice (some ⟨be, oe, none⟩) m ec) ∧ W'.cell? ⟨be, oe + j * 2, none⟩ = some (.int .i64 xs) ∧ W'.cell? ⟨be, oe + j * 2 + 1, none⟩ = some (.int .i64 xc))) := fun W W' h1 h2 => by
              have h3 : Below w.heap.size w W' := h1.1.trans (h2.mono h1.1.size)
              obtain ⟨z0, z1, z2, z3⟩ := HC.out _ h3
              obtain ⟨u0, u1⟩ := HEc.out _ h3
              exact ⟨h3, z3, u0, u1⟩
            have HQ2 : Hid (q ++ vf xs ++ vf xc = bs (B5 ++ (E.take (j + 1)).flatMap extL)) := by
              show _ = _
              rw [HQ.out, HVf.out, HVf.out, bs_app, bs_app, HTj.out, HXL.out]
              congr 1
              simp only [List.append_assoc]
            have hqs2 : (q ++ vf xs ++ vf xc).size ≤ 14 + 400 * k + 74 + 20 * (j + 1) := by simp only [ByteArray.size_append]; omega
            clear HTj HXL HQ
            go_wp2_with fail
            go_region_held3 (fun W : World => Below w.heap.size w W ∧ W.cell? ⟨bb, off + k * 4 + 3, none⟩ = some (.slice (some ⟨be, oe, none⟩) m ec) ∧ W.cell? ⟨be, oe + j * 2, none⟩ = some (.int .i64 xs) ∧ W.cell? ⟨be, oe + j * 2 + 1, none⟩ = some (.int .i64 xc))
              (first | exact ⟨HBq.out.drew, x3, y0, y1⟩ | exact HKp.out _ _ (by assumption) (by assumption))
              (first
                | (go_at_call 54; refine (CN.out _ _ (by omega) (by omega)).mono ?_; rintro e w' ⟨rfl, hbx⟩))
            rename_i hHeld
            have HB7 : Hid (Below w.heap.size w w') := hHeld.1
            clear hHeld hbx HKp b1 b2 x3 y0 y1
            generalize q ++ vf xs ++ vf xc = q7 at *
            go_wp2_with fail
            go_roundw
            case rel => exact ⟨j + 1, q7, by omega, by go_num, rfl, hqs2, HQ2, HB7⟩
            case measure => simp [intOf]; omega
          · obtain rfl : j = m := by omega
            have hjz : ¬ (j : Int) < (j : Int) := by omega
            have HLF : Hid (q = bs (A0 ++ (L.take (k + 1)).flatMap fileL)) := by
              have hE : E.take j = E := List.take_of_length_le (by rw [HM.out]; exact Nat.le_refl _)
              show _ = _
              rw [HQ.out, hE, HBB.out]
            clear HQ HBB HEx HCe
            go_wp2_with fail
            go_roundw
            case rel => exact ⟨k + 1, q, by omega, by go_num, rfl, by omega, HLF, HBq⟩
            case measure => simp [intOf]; omega
    · obtain rfl : k = n := by omega
      have hkz : ¬ (k : Int) < (k : Int) := by omega
      have HE : Hid (t = bs (dirL L)) := by
        show _ = _
        rw [HT.out, HD.out, List.take_of_length_le (by rw [HN.out]; exact Nat.le_refl _)]
      go_wp2_with fail
      go_ret
      exact ⟨by rw [← HE.out]; rfl, HBr.out⟩
end Go.Proofs.Ytfmnbabkdpiboaa
