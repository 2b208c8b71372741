/- What the document's Unpack answers. -/
import Derived.Test.YtfmnbabkdpiboaaZRPack
import Derived.Test.YtfmnbabkdpiboaaZIUnp

namespace Go.Proofs.Ytfmnbabkdpiboaa
open Go.RowKit
open Fr (rdV rdT bs str_len below_drewN fixL unfix crcL)

theorem nFilesL_stay {o : Option (List UInt8)} {j m : Nat} (h : (nFilesL o j).2 = none) (hm : j ≤ m) : (nFilesL o m).2 = none := by
  induction m with
  | zero => obtain rfl : j = 0 := by omega
            exact h
  | succ m ih =>
    by_cases e : j = m + 1
    · subst e; exact h
    · rw [nFilesL]
      dsimp only
      rw [ih (by omega)]
      exact nFile_none
theorem SmallF.nums {L : List Fl} (h : ∀ f ∈ L, SmallF f) : Nums64 L := fun f hf => by
  have hs := h f hf
  refine ⟨by have := hs.name; omega, by have := hs.size; unfold I64; omega, fun x hx => ?_⟩
  have := hs.ext x hx
  unfold I64; omega
theorem ext_four (s : ByteArray) (hs : s.size = 3072) : ((s.extract 0 4).toList == [67, 68, 88, 73]) = Lib.hasPrefix s.data.toList [67, 68, 88, 73] := by
  rw [Fr.ext_take, ByteArray.toList_eq, bs_list]
  have hl := str_len s
  match s.data.toList, hl with
  | [], h => simp at h; omega
  | [a], h => simp at h; omega
  | [a, b], h => simp at h; omega
  | [a, b, c], h => simp at h; omega
  | a :: b :: c :: d :: r, h =>
    simp [Lib.hasPrefix]
    rw [Bool.eq_iff_iff]
    simp
    exact ⟨fun ⟨h1, h2, h3, h4⟩ => ⟨h1.symm, h2.symm, h3.symm, h4.symm⟩, fun ⟨h1, h2, h3, h4⟩ => ⟨h1.symm, h2.symm, h3.symm, h4.symm⟩⟩
/-- One file more, of a row of the document's. -/
theorem OwnF.pushR {B : Nat} {w w' : World} {v v' : Value} {L : List Fl} {P : List (Fl × Value)} {f : Fl} {ve : Value} (hP : P.map (·.1) = L) (ho : w.ownsRow B 58 4 v L.length (flatF P)) (he : ∀ p ∈ P, OwnE B w p.2 p.1.ext) (hf : OwnE B w ve f.ext)
    (hown : w'.ownsRow B 58 4 v' (L.length + 1) (flatF P ++ [.string f.name, .bool f.shut, .int .i64 f.size, ve])) (hg : w.grownBy w' v.ownBlock) : OwnF 58 B w' v' (L ++ [f]) := OwnF.push (by decide) hP ho he hf hown hg
/-- Noughts from a place on. -/
def noughtsTo (r : List UInt8) (k : Nat) : Prop := ∀ i (h : i < r.length), 4 ≤ i → i < k → r[i] = 0
theorem noughts_all {r : List UInt8} (h4 : 4 ≤ r.length) : r.drop 4 = List.replicate (r.length - 4) 0 ↔ noughtsTo r r.length := by
  constructor
  · intro h i hi h1 _
    have : (r.drop 4)[i - 4]? = some 0 := by rw [h, List.getElem?_replicate]; simp; omega
    rw [List.getElem?_drop, show 4 + (i - 4) = i by omega, List.getElem?_eq_getElem hi] at this
    simpa using this
  · intro h
    apply List.ext_getElem
    · simp
    · intro i h1 h2
      rw [List.getElem_drop, List.getElem_replicate]
      exact h (4 + i) (by simp at h1; omega) (by omega) (by simp at h1; omega)
theorem held_b {w W W' : World} (h1 : Below w.heap.size w W) (h2 : Below W.heap.size W W') : Below w.heap.size w W' := h1.trans (h2.mono h1.size)
def unpO : Option (List Fl × List UInt8) → List Fl × Int
  | none => ([], 7)
  | some (L, r) => if 4 ≤ r.length ∧ r.drop 4 = List.replicate (r.length - 4) 0 ∧ rtB L 0 4096 = true then (if r.take 4 = fixL (crcL (dirL L)) then (L, 0) else ([], 8)) else ([], 7)
theorem unpR_O {l : List UInt8} (h1 : l.length = 3072) (h2 : Lib.hasPrefix l [67, 68, 88, 73] = true) : unpR l = unpO (pDir (l.drop 4)) := by
  unfold unpR
  rw [if_pos ⟨h1, h2⟩]
  cases pDir (l.drop 4) with
  | none => rfl
  | some p => rfl
set_option maxRecDepth 100000 in
set_option maxHeartbeats 16000000 in
theorem runpack8_any (s : ByteArray) (w : World) (hs : s.size ≤ 1000000) :
    Calls Try.prog 21 #[.string s] w fun e w' => ∃ v, e = .returned (.tuple #[v, .int .i64 (unpR s.data.toList).2]) ∧ Hid (SlF w' v (unpR s.data.toList).1) ∧ Hid (Below w.heap.size w w') := by
  obtain ⟨i0, hi0, hz0, hz1, hz2⟩ := info_parts Try.infoRF2
  have HZ2 := Lib.hid hz2; clear hz2
  have hll := str_len s
  by_cases h1 : s.size = 3072
  case neg =>
    have hz : unpR s.data.toList = ([], 7) := by unfold unpR; rw [if_neg (by rw [hll]; exact fun h => h1 h.1)]
    rw [hz]
    have i1 : ((s.size : Int) != 3072) = true := bne_iff_ne.2 (by omega)
    clear hz hll
    go_enter Try.func21, Try.ntmps21
    go_wp2_with fail
    go_ret2
    exact ⟨_, rfl, slF_nil _, Below.refl _ _⟩
  have i1 : ((s.size : Int) != 3072) = false := by rw [bne_eq_false_iff_eq]; omega
  have hpre := ext_four s h1
  have i44 : (4 : Int) ≤ (s.size : Int) := by omega
  cases h2 : Lib.hasPrefix s.data.toList [67, 68, 88, 73]
  case false =>
    have hz : unpR s.data.toList = ([], 7) := by unfold unpR; rw [if_neg (by rw [h2]; simp)]
    rw [hz]
    rw [h2] at hpre
    clear hz hll h2 h1
    go_enter Try.func21, Try.ntmps21
    go_wp2_with fail
    go_ret2
    exact ⟨_, rfl, slF_nil _, Below.refl _ _⟩
  have hz := unpR_O (by rw [hll]; exact h1) h2
  have HZP := Lib.hid hz
  generalize unpR s.data.toList = P at *
  have hx4 : (s.extract 4 3072).data.toList = s.data.toList.drop 4 := by rw [← h1, Fr.ext_drop, bs_list]
  have HAD := Lib.hid fun L r (h : pDir (s.data.toList.drop 4) = some (L, r)) => ahead_dir h2 h
  have hdl : (s.data.toList.drop 4).length = 3068 := by rw [List.length_drop, hll]; omega
  have HDY := Lib.hid fun L r (h : pDir (s.data.toList.drop 4) = some (L, r)) => nDir_yes h
  have HDN := Lib.hid fun (h : pDir (s.data.toList.drop 4) = none) => nDir_no h
  have hXs : (s.extract 4 3072).size ≤ 3072 := by rw [← str_len, hx4]; omega
  have HRd : Hid (∀ W : World, W.heap[w.heap.size]? = some (.cells #[.string (s.extract 4 3072), .bool true] 79 (0, 0)) → RrOK W w.heap.size (some (s.data.toList.drop 4))) := fun W h => ⟨_, true, h, hXs, (fun l hl => by cases hl; exact ⟨rfl, hx4⟩), (fun h => by cases h)⟩
  have HSL : Hid (∀ a b : Nat, a ≤ b → b ≤ 3072 → (s.extract a b).data.toList = (s.data.toList.drop a).take (b - a)) := fun a b h1 h2 => by
    rw [ByteArray.data_extract, Array.toList_extract]
  have hnd : nDir (some (s.data.toList.drop 4)) = nFilesL (nNum 64 (some (s.data.toList.drop 4))).2 (nNum 64 (some (s.data.toList.drop 4))).1 := rfl
  have HND := Lib.hid hnd
  have hm64 := nNum_le 64 (some (s.data.toList.drop 4))
  have CN := Lib.hid fun W h => rnum_any 64 (by omega) (some (s.data.toList.drop 4)) w.heap.size W h
  obtain ⟨X, hX⟩ : ∃ X, s.extract 4 3072 = X := ⟨_, rfl⟩
  have HX9 := Lib.hid hX
  rw [hX] at hx4 hXs HRd
  rw [h2] at hpre
  clear hX hz hnd
  generalize hl4 : s.data.toList.drop 4 = l4 at *
  clear h2 hl4
  generalize nNum 64 (some l4) = q0 at *
  obtain ⟨n, o1⟩ := q0
  dsimp only at HND hm64 CN
  have hXX : s.extract 4 3072 = X := HX9.out
  go_enter Try.func21, Try.ntmps21
  go_wp2_with fail
  refine (CN.out _ (HRd.out _ (heap_alloc_new w _))).mono ?_
  rintro e w2 ⟨q, rfl, hq, hqe, HR2, HO2⟩
  obtain rfl : q = n := hqe (by simp)
  obtain ⟨X1, hX1⟩ : ∃ X1, w.alloc (.cells #[.string X, .bool true] 79) = X1 := ⟨_, rfl⟩
  have hX1s : X1.heap.size = w.heap.size + 1 := by rw [← hX1]; simp
  have HBX : Hid (Below w.heap.size w X1) := by show Below _ _ _; rw [← hX1]; exact (Below.refl _ _).alloc (Nat.le_refl _) _
  rw [hX1] at HO2
  clear hX1 CN HRd hqe hXX
  go_wp2_with fail
  go_loopw [6, 7, 8] (fun fv iv _ wr => ∃ (i : Nat) (L : List Fl), i ≤ q ∧ iv = .int .i64 (i : Int) ∧ L.length = i ∧ Hid (OwnF 58 (w.heap.size + 1) wr fv L) ∧ Hid (∀ f ∈ L, SmallF f) ∧ Hid ((nFilesL o1 i).2 ≠ none → L = (nFilesL o1 i).1) ∧ Hid (RrOK wr w.heap.size (nFilesL o1 i).2) ∧ Hid (Only (fun k => k = w.heap.size) X1 wr)) (fun _ iv _ _ => q - (intOf iv).toNat)
  case atStart => exact ⟨0, [], Nat.zero_le _, rfl, rfl, OwnF.nil _ _ _, (show ∀ f ∈ ([] : List Fl), SmallF f from fun f hf => by cases hf), (show (nFilesL o1 0).2 ≠ none → [] = (nFilesL o1 0).1 from fun _ => rfl), HR2, HO2⟩
  case round =>
    obtain ⟨i, L, hi, rfl, hLl, HO, HSm, HEq, HR, HOn⟩ := hrel
    clear HR2 HO2
    have hsz := HOn.out.size
    have HBw : Hid (Below w.heap.size w wr) := HBX.out.trans (HOn.out.below (by omega) (fun k _ e => by omega))
    obtain ⟨ao, ac, hev⟩ := HO.out.shape
    subst hev
    obtain ⟨s2, b, hsg, hss, hs1, hs2⟩ := HR.out
    have k0 : wr.cell? ⟨w.heap.size, 0, none⟩ = some (.string s2) := cell_at hsg 0
    have k1 : wr.cell? ⟨w.heap.size, 1, none⟩ = some (.bool b) := cell_at hsg 1
    have HG := Lib.hid hsg; clear hsg
    by_cases hex : (nFilesL o1 i).2 = none ∨ i = q
    · have HEnd : Hid ((nDir (some l4)).2 = (nFilesL o1 i).2 ∧ ((nDir (some l4)).2 ≠ none → L = (nDir (some l4)).1)) := by
        show _ ∧ _
        rw [HND.out]
        cases hst : (nFilesL o1 i).2 with
        | none =>
          rw [nFilesL_stay hst hi]
          exact ⟨rfl, fun h => absurd rfl h⟩
        | some lj =>
          obtain rfl : i = q := by
            rcases hex with h | h
            · rw [hst] at h; cases h
            · exact h
          exact ⟨hst, fun h => HEq.out h⟩
      have hbj : ¬ (i < q ∧ b = true) := fun h => by
        rcases hex with h1 | h1
        · have := hs2 h1; rw [h.2] at this; cases this
        · omega
      have hnum := SmallF.nums HSm.out
      have CR := Lib.hid (rright_any L (.slice ao L.length ac) wr HO.out.sl hnum (fun f hf => by have := (HSm.out f hf).name; omega) (by omega))
      have HSl := Lib.hid HO.out.sl
      -- the way out
      cases hp : pDir l4 with
      | none =>
        have h7 : (nFilesL o1 i).2 = none := by rw [← HEnd.out.1]; exact HDN.out hp
        obtain rfl : b = false := hs2 h7
        have HE : Hid (P = ([], 7)) := by show _ = _; rw [HZP.out, hp]; rfl
        clear HZP HEnd HDY HDN HAD hex hs1 hs2 h7 HEq HSm HR HOn HND hp HG
        rw [hLl] at CR ⊢
        by_cases hiq : i < q
        · have hiz : (i : Int) < (q : Int) := by omega
          clear hbj
          go_wp2_with fail
          refine CR.out.mono ?_
          rintro e w5 ⟨rfl, hb5⟩
          have k15 := (hb5.cell (p := ⟨w.heap.size, 1, none⟩) (by show w.heap.size < _; omega)).trans k1
          have HB5 : Hid (Below w.heap.size w w5) := HBw.out.trans (hb5.mono HBw.out.size)
          clear hb5
          go_wp2_with fail
          go_ret2
          exact ⟨_, by rw [HE.out]; rfl, by rw [HE.out]; exact slF_nil _, HB5⟩
        · obtain rfl : i = q := by omega
          have hiz : ¬ (i : Int) < (i : Int) := by omega
          clear hbj
          go_wp2_with fail
          refine CR.out.mono ?_
          rintro e w5 ⟨rfl, hb5⟩
          have k15 := (hb5.cell (p := ⟨w.heap.size, 1, none⟩) (by show w.heap.size < _; omega)).trans k1
          have HB5 : Hid (Below w.heap.size w w5) := HBw.out.trans (hb5.mono HBw.out.size)
          clear hb5
          go_wp2_with fail
          go_ret2
          exact ⟨_, by rw [HE.out]; rfl, by rw [HE.out]; exact slF_nil _, HB5⟩
      | some pr =>
        obtain ⟨L0, r⟩ := pr
        have hnd := HDY.out L0 r hp
        have h7 : (nFilesL o1 i).2 = some r := by rw [← HEnd.out.1, hnd]
        obtain ⟨rfl, hr⟩ := hs1 r h7
        obtain rfl : L = L0 := by have := HEnd.out.2 (by rw [hnd]; simp); rw [hnd] at this; exact this
        obtain rfl : i = q := by
          rcases hex with h | h
          · rw [h7] at h; cases h
          · exact h
        have hlr : r.length = s2.size := by rw [← hr]; exact str_len s2
        have HAh := Lib.hid (HAD.out L r hp)
        have HZa : Hid ((¬ 4 ≤ s2.size ∨ ¬ noughtsTo r s2.size ∨ rtB L 0 4096 = false) → P = ([], 7)) := fun h => by
          rw [HZP.out, hp]
          refine if_neg (fun h2 => ?_)
          rw [hlr] at h2
          have h4 := (noughts_all (r := r) (by omega)).1 (by rw [hlr]; exact h2.2.1)
          rw [hlr] at h4
          rcases h with h | h | h
          · exact h h2.1
          · exact h h4
          · rw [h] at h2; exact absurd h2.2.2 (by simp)
        have HZb : Hid (4 ≤ s2.size → noughtsTo r s2.size → rtB L 0 4096 = true → (r.take 4 = fixL (crcL (dirL L)) → P = (L, 0)) ∧ (r.take 4 ≠ fixL (crcL (dirL L)) → P = ([], 8))) := fun h1 h2 h3 => by
          have h4 := (noughts_all (r := r) (by omega)).2 (by rw [hlr]; exact h2)
          have h5 : P = (if r.take 4 = fixL (crcL (dirL L)) then (L, 0) else ([], 8)) := by
            rw [HZP.out, hp]
            exact if_pos ⟨by omega, h4, h3⟩
          rw [h5]
          exact ⟨fun h => if_pos h, fun h => if_neg h⟩
        have hiz : ¬ (i : Int) < (i : Int) := by omega
        clear HZP HEnd HDY HDN HAD hex hs1 hs2 h7 HEq HSm HR HOn HND hp hbj hnd
        have HRt := Lib.hid (rtB_iff L 0 4096)
        obtain ⟨rt, hrt⟩ : ∃ rt, rtB L 0 4096 = rt := ⟨_, rfl⟩
        rw [hrt] at CR HZa HZb HRt
        clear hrt
        have HLl := Lib.hid hLl
        rw [hLl] at CR ⊢
        go_wp2_with fail
        refine CR.out.mono ?_
        rintro e w5 ⟨rfl, hb5⟩
        have k15 := (hb5.cell (p := ⟨w.heap.size, 1, none⟩) (by show w.heap.size < _; omega)).trans k1
        have k05 := (hb5.cell (p := ⟨w.heap.size, 0, none⟩) (by show w.heap.size < _; omega)).trans k0
        have HB5 : Hid (Below w.heap.size w w5) := HBw.out.trans (hb5.mono HBw.out.size)
        have HSl5 : Hid (SlF w5 (.slice ao i ac) L) := by rw [← HLl.out]; exact HSl.out.below hb5
        clear hb5 CR HSl HO k0 k1 HG HBw
        cases rt
        case false =>
          have HE : Hid (P = ([], 7)) := HZa.out (.inr (.inr rfl))
          clear HZa HZb HRt HAh
          go_wp2_with fail
          go_ret2
          exact ⟨_, by rw [HE.out]; rfl, by rw [HE.out]; exact slF_nil _, HB5⟩
        by_cases h4 : s2.size < 4
        · have z4 : (s2.size : Int) < 4 := by omega
          have HE : Hid (P = ([], 7)) := HZa.out (.inl (by omega))
          clear HZa HZb HRt HAh
          go_wp2_with fail
          go_ret2
          exact ⟨_, by rw [HE.out]; rfl, by rw [HE.out]; exact slF_nil _, HB5⟩
        have z4 : ¬ (s2.size : Int) < 4 := by omega
        go_wp2_with fail
        go_loop [10] (fun kv => ∃ k : Nat, 4 ≤ k ∧ k ≤ s2.size ∧ kv = .int .i64 (k : Int) ∧ Hid (noughtsTo r k)) (fun kv => s2.size - (intOf kv).toNat)
        case atStart => exact ⟨4, Nat.le_refl _, by omega, rfl, (show noughtsTo r 4 from fun i _ h1 h2 => by omega)⟩
        case round =>
          obtain ⟨k, hk4, hk, rfl, HNo⟩ := hrel
          by_cases hlt : k < s2.size
          · have hkz : (k : Int) < (s2.size : Int) := by omega
            have hkr : r[k]'(by omega) = s2[k] := by
              subst hr; rfl
            have HNo2 : Hid (s2[k] = 0 → noughtsTo r (k + 1)) := fun h0 i hi h1 h2 => by
              by_cases e : i = k
              · subst e; rw [hkr, h0]
              · exact HNo.out i hi h1 (by omega)
            have HNo3 : Hid (s2[k] ≠ 0 → ¬ noughtsTo r s2.size) := fun h0 h1 => h0 (by rw [← hkr]; exact h1 k (by omega) hk4 hlt)
            have hb0 : s2[k].toNat = 0 ↔ s2[k] = 0 := ⟨fun h => UInt8.toNat_inj.1 (by rw [h]; rfl), fun h => by rw [h]; rfl⟩
            clear hkr
            by_cases h0 : s2[k].toNat = 0
            · have q0 : ((s2[k].toNat : Int) != 0) = false := by rw [bne_eq_false_iff_eq]; omega
              have HNo4 := Lib.hid (HNo2.out (hb0.1 h0))
              clear HNo2 HNo3 hb0 HNo h0
              go_wp2_with fail
              go_round
              case rel => exact ⟨k + 1, by omega, by omega, by go_num, HNo4⟩
              case measure => simp [intOf]; omega
            · have q0 : ((s2[k].toNat : Int) != 0) = true := bne_iff_ne.2 (by omega)
              have hno := HNo3.out (fun h => h0 (hb0.2 h))
              have HE : Hid (P = ([], 7)) := HZa.out (.inr (.inl hno))
              clear HNo2 HNo3 hb0 HNo h0 hno HZa HZb HRt HAh
              go_wp2_with fail
              go_ret2
              exact ⟨_, by rw [HE.out]; rfl, by rw [HE.out]; exact slF_nil _, HB5⟩
          · obtain rfl : k = s2.size := by omega
            have hkz : ¬ (s2.size : Int) < (s2.size : Int) := by omega
            have hRP := HRt.out.1 (by simp)
            have HZ2 := Lib.hid (HZb.out (by omega) HNo.out (by simp))
            have CB := Lib.hid (rbytes_any L (.slice ao i ac) w5 HSl5.out hRP.1 hRP.tiny)
            have hdl2 : (dirL L).length + s2.size = 3072 := by
              have := congrArg List.length HAh.out
              rw [hll, List.length_append, hlr] at this
              omega
            have hds : (bs (dirL L)).size = (dirL L).length := Fr.bs_size _
            have CC := Lib.hid fun W => Fr.rcrc_any (bs (dirL L)) W (by unfold maxLen; omega)
            rw [bs_list] at CC
            have CF := Lib.hid fun W => Fr.rfixed_any (crcL (dirL L)) W (Fr.crcL_lt _)
            have hext : (s.extract (bs (dirL L)).size ((bs (dirL L)).size + 4)) = bs (r.take 4) := by
              have e1 := HSL.out (bs (dirL L)).size ((bs (dirL L)).size + 4) (by omega) (by omega)
              have e2 : (s.data.toList.drop (bs (dirL L)).size).take ((bs (dirL L)).size + 4 - (bs (dirL L)).size) = r.take 4 := by
                rw [hds, Nat.add_sub_cancel_left, HAh.out]
                congr 1
                exact List.drop_left' rfl
              rw [e2] at e1
              rw [← e1, Fr.bs_self]
            have HCmp : Hid (s.extract (bs (dirL L)).size ((bs (dirL L)).size + 4) = bs (fixL (crcL (dirL L))) ↔ r.take 4 = fixL (crcL (dirL L))) := by
              show _ ↔ _
              rw [hext]
              exact ⟨fun h => Fr.bs_inj h, fun h => by rw [h]⟩
            obtain ⟨D, hD⟩ : ∃ D, bs (dirL L) = D := ⟨_, rfl⟩
            rw [hD] at CB hds CC HCmp
            have hDs : D.size ≤ 3068 := by omega
            obtain ⟨F4, hF4⟩ : ∃ F4, bs (fixL (crcL (dirL L))) = F4 := ⟨_, rfl⟩
            rw [hF4] at CF HCmp
            have i1' : (D.size : Int) ≤ (D.size : Int) + 4 := by omega
            have i2' : (D.size : Int) + 4 ≤ (s.size : Int) := by omega
            have i6' : (D.size : Int) + 4 ≤ 3072 := by omega
            have i7' : (0 : Int) ≤ (D.size : Int) := by omega
            have i3' : ((D.size : Int) + 4).toNat = D.size + 4 := by omega
            have i4' : (0 : Int) ≤ (D.size : Int) + 4 := by omega
            have i5' : IntKind.i64.wrap ((D.size : Int) + 4) = (D.size : Int) + 4 := IntWalk.i64_in _ (by omega)
            obtain ⟨Ex, hEx⟩ : ∃ Ex, s.extract D.size (D.size + 4) = Ex := ⟨_, rfl⟩
            rw [hEx] at HCmp
            have HZ3 : Hid ((Ex = F4 → P = (L, 0)) ∧ (Ex ≠ F4 → P = ([], 8))) := ⟨fun h => HZ2.out.1 (HCmp.out.1 h), fun h => HZ2.out.2 (fun h2 => h (HCmp.out.2 h2))⟩
            generalize crcL (dirL L) = cr at *
            clear hext hRP HZ2 HCmp hD hF4 HZa HZb HRt HAh HNo hds hdl2 hr hlr
            go_wp2_with fail
            refine CB.out.mono ?_
            rintro e w6 ⟨rfl, hb6⟩
            have HB6 : Hid (Below w.heap.size w w6) := HB5.out.trans (hb6.mono HB5.out.size)
            have HSl6 := Lib.hid (HSl5.out.below hb6)
            clear hb6 CB HB5 HSl5
            by_cases hc : Ex = F4
            · have HE := Lib.hid (HZ3.out.1 hc)
              have hcmp := Fr.str_same hc
              clear HZ3
              go_wp2_with fail
              go_region_held3 (fun W : World => Below w6.heap.size w6 W)
                (first | exact (Below.refl _ _).drew | exact held_b (by assumption) (by assumption) | assumption)
                (first
                  | (go_at_call 39; refine (CC.out _).mono ?_; rintro e w' ⟨rfl, rfl⟩)
                  | (go_at_call 38; refine (CF.out _).mono ?_; rintro e w' ⟨rfl, hbx⟩))
              rename_i hHeld
              have HB9 : Hid (Below w.heap.size w w') := HB6.out.trans (hHeld.mono HB6.out.size)
              have HSl9 : Hid (SlF w' (.slice ao i ac) L) := HSl6.out.below hHeld
              clear hHeld hbx
              go_wp2_with fail
              go_ret2
              exact ⟨_, by rw [HE.out]; rfl, by rw [HE.out]; exact HSl9.out, HB9⟩
            · have HE := Lib.hid (HZ3.out.2 hc)
              have hcmp := Fr.str_diff hc
              clear HZ3
              go_wp2_with fail
              go_region_held3 (fun W : World => Below w6.heap.size w6 W)
                (first | exact (Below.refl _ _).drew | exact held_b (by assumption) (by assumption) | assumption)
                (first
                  | (go_at_call 39; refine (CC.out _).mono ?_; rintro e w' ⟨rfl, rfl⟩)
                  | (go_at_call 38; refine (CF.out _).mono ?_; rintro e w' ⟨rfl, hbx⟩))
              rename_i hHeld
              have HB9 : Hid (Below w.heap.size w w') := HB6.out.trans (hHeld.mono HB6.out.size)
              clear hHeld hbx
              go_wp2_with fail
              go_ret2
              exact ⟨_, by rw [HE.out]; rfl, by rw [HE.out]; exact slF_nil _, HB9⟩
    · have hjm : i < q := by omega
      have hiz : (i : Int) < (q : Int) := by omega
      cases hst : (nFilesL o1 i).2 with
      | none => exact absurd (.inl hst) hex
      | some lj =>
        obtain ⟨rfl, hr⟩ := hs1 lj hst
        have hEE := HEq.out (by rw [hst]; simp)
        have HN : Hid (nFilesL o1 (i + 1) = ((nFilesL o1 i).1 ++ [(nFile (nFilesL o1 i).2).1], (nFile (nFilesL o1 i).2).2)) := rfl
        rw [hst] at HN
        have HEE := Lib.hid hEE
        have HRs := HR.out
        rw [hst] at HRs
        have HR2 := Lib.hid HRs
        have CO := Lib.hid fun W h => rone_any lj w.heap.size W h
        generalize nFilesL o1 i = pj at *
        obtain ⟨L0, oo⟩ := pj
        dsimp only at HEE HN
        generalize nFile (some lj) = nf at *
        obtain ⟨f0, o7⟩ := nf
        dsimp only at HN CO
        obtain ⟨PP, hPP, hPo, hPe⟩ := HO.out
        have HPP := Lib.hid hPP; have HPo := Lib.hid hPo; have HPe := Lib.hid hPe
        have hgw : ∀ k, w.heap.size + 1 ≤ k → ¬ k = w.heap.size := fun k hk e => by omega
        clear hPP hPo hPe HO hEE HRs HR HEq hex hs1 hs2 hst HZP HAD HDY HDN HSL HG hr
        unfold fileAgg at CO
        go_wp2_with fail
        refine (CO.out _ HR2.out).mono ?_
        rintro e w5 ⟨f, ve, rfl, HVe, HSf, HFe, HR5, HO5⟩
        obtain ⟨vo, vc, hve⟩ := own_shapeE HVe.out
        subst hve
        have hs5 := HO5.out.size
        have hhn := heap_alloc_new w5 (.cells #[.string f.name, .bool f.shut, .int .i64 f.size, .slice vo f.ext.length vc] 58)
        have HOw : Hid (World.ownsRow ((w5.alloc (.cells #[.string f.name, .bool f.shut, .int .i64 f.size, .slice vo f.ext.length vc] 58)).alloc (.cells #[.string f.name, .bool f.shut, .int .i64 f.size, .slice vo f.ext.length vc] 58)) (w.heap.size + 1) 58 4 (.slice ao L.length ac) L.length (flatF PP)) := ((own_only HPo.out HO5.out hgw).alloc _).alloc _
        have HEw : Hid (∀ p ∈ PP, OwnE (w.heap.size + 1) ((w5.alloc (.cells #[.string f.name, .bool f.shut, .int .i64 f.size, .slice vo f.ext.length vc] 58)).alloc (.cells #[.string f.name, .bool f.shut, .int .i64 f.size, .slice vo f.ext.length vc] 58)) p.2 p.1.ext) := fun p hp => World.ownsRow.alloc (World.ownsRow.alloc (own_only (HPe.out p hp) HO5.out hgw) _) _
        have HFw : Hid (OwnE (w.heap.size + 1) ((w5.alloc (.cells #[.string f.name, .bool f.shut, .int .i64 f.size, .slice vo f.ext.length vc] 58)).alloc (.cells #[.string f.name, .bool f.shut, .int .i64 f.size, .slice vo f.ext.length vc] 58)) (.slice vo f.ext.length vc) f.ext) := World.ownsRow.alloc (World.ownsRow.alloc (own_down (w := w5) HVe.out (by omega)) _) _
        have HRw : Hid (RrOK ((w5.alloc (.cells #[.string f.name, .bool f.shut, .int .i64 f.size, .slice vo f.ext.length vc] 58)).alloc (.cells #[.string f.name, .bool f.shut, .int .i64 f.size, .slice vo f.ext.length vc] 58)) w.heap.size o7) := (HR5.out.below ((Below.refl _ _).alloc (Nat.le_refl _) _)).below ((Below.refl _ _).alloc (Nat.le_refl _) _)
        have HOw5 : Hid (Only (fun k => k = w.heap.size) X1 ((w5.alloc (.cells #[.string f.name, .bool f.shut, .int .i64 f.size, .slice vo f.ext.length vc] 58)).alloc (.cells #[.string f.name, .bool f.shut, .int .i64 f.size, .slice vo f.ext.length vc] 58))) := ((HOn.out.trans HO5.out (fun _ _ h => h)).alloc _).alloc _
        have d0 := cell_at hhn 0; have d1 := cell_at hhn 1; have d2 := cell_at hhn 2; have d3 := cell_at hhn 3
        rw [hLl] at HOw
        clear hhn HPo HPe HVe HR5 HOn HO5 k0 k1
        go_wp2_with (at_builtin; refine wpList_append_where _ rfl (.tmp 39) (.tmp 41) 24 rfl (w.heap.size + 1) 58 i0 (.agg #[.string ⟨#[]⟩, .bool false, .int .i64 0, .slice none 0 0]) 4 56 Try.underlying24 hi0 hz0 hz1 HZ2.out rfl (by omega) _ i (flatF PP) rfl HOw.out ⟨w5.heap.size + 1, 0, none⟩ 1 1 [.string f.name, .bool f.shut, .int .i64 f.size, .slice vo f.ext.length vc] rfl rfl (four_cells (alloc2_new _ _ _)) ?c1 ?c2 ?c3 ?c4 ?_)
        case c1 => simp [Value.oneCell']
        case c2 => unfold maxLen; omega
        case c3 => omega
        case c4 => first | omega | (simp; omega)
        intro v9 w9 hown hgrow hwh
        have hV9 : OwnF 58 (w.heap.size + 1) w9 v9 (L ++ [f]) := OwnF.pushR HPP.out (by rw [hLl]; exact HOw.out) HEw.out HFw.out (by rw [hLl]; exact hown) hgrow
        obtain ⟨v9o, v9c, hv9⟩ := own_shapeE hown
        subst hv9
        have HV9 := Lib.hid hV9
        have hge : ∀ q, (Value.slice ao i ac).ownBlock = some q → w.heap.size + 1 ≤ q := fun q hq => (HOw.out.lt q hq).1
        have HR9 : Hid (RrOK w9 w.heap.size o7) := by
          obtain ⟨s9, b9, h2, rest⟩ := HRw.out
          exact ⟨s9, b9, (grown_block hgrow (by simp; omega) (fun e => by have := hge _ e; omega)).trans h2, rest⟩
        have HO9 : Hid (Only (fun k => k = w.heap.size) X1 w9) := only_grown HOw5.out hgrow (fun q hq => by rw [hX1s]; exact hge q hq)
        have HSm9 : Hid (∀ x ∈ L ++ [f], SmallF x) := fun x hx => by
          rcases List.mem_append.1 hx with hx | hx
          · exact HSm.out x hx
          · rw [List.mem_singleton.1 hx]; exact HSf.out
        have HEq9 : Hid ((nFilesL o1 (i + 1)).2 ≠ none → L ++ [f] = (nFilesL o1 (i + 1)).1) := fun h => by
          rw [HN.out] at h ⊢
          dsimp only at h ⊢
          rw [HEE.out, HFe.out h]
        have HRs9 : Hid (RrOK w9 w.heap.size (nFilesL o1 (i + 1)).2) := by show RrOK _ _ _; rw [HN.out]; exact HR9.out
        have hl9 : (L ++ [f]).length = i + 1 := by rw [List.length_append, hLl]; rfl
        clear hV9 hown hgrow hwh hge HOw HEw HFw HRw HOw5 HSm HSf HFe HEE HN HR9 HPP CO d0 d1 d2 d3
        go_wp2_with fail
        go_roundw
        case rel => exact ⟨i + 1, _, by omega, by go_num, hl9, HV9, HSm9, HEq9, HRs9, HO9⟩
        case measure => simp [intOf]; omega
end Go.Proofs.Ytfmnbabkdpiboaa
