/- What the document's Pack answers. -/
import Derived.Test.YtfmnbabkdpiboaaZRRight
import Derived.Test.YtfmnbabkdpiboaaZIUnp
import Derived.Test.YtfmnbabkdpiboaaZWCrc

namespace Go.Proofs.Ytfmnbabkdpiboaa
open Go.RowKit
open Fr (below_drewN varL textL bs fixL crcL)

theorem zero_text8 {B : Nat} {w : World} {g n : Nat} (h : w.ownsRow B 5 1 (.slice (some ⟨g, 0, none⟩) n n) n (List.replicate n (.int .u8 0))) :
    (convert 44 9 (.slice (some ⟨g, 0, none⟩) n n)).run Try.prog w = .ok (.string (bs (List.replicate n 0))) w := by
  have e : bs (List.replicate n 0) = strOfNums (List.replicate n 0) := by
    unfold bs strOfNums
    rw [List.map_replicate]; rfl
  rw [e]
  refine run_convert_bytes_arg w 44 5 Try.underlying44 Try.underlying5 g 0 n n (List.replicate n 0) (by simp) ?_ 9 Try.underlying9
  intro i hi
  rw [Nat.zero_add, World.ownsRow.cellAt h i (by omega)]
  simp [List.getD, hi]
set_option maxRecDepth 100000 in
set_option maxHeartbeats 4000000 in
theorem rpack_any (L : List Fl) (v : Value) (w : World) (h : SlF w v L) (hN : Nums64 L) (hnm : ∀ f ∈ L, f.name.size ≤ 1000000) (hn : L.length ≤ 100000) : Calls Try.prog 19 #[v] w fun e w' => e = .returned (.tuple #[.string (packS L), .int .i64 (packE L)]) ∧ Below w.heap.size w w' := by
  obtain ⟨i0, hi, hz0, hz1, hz2⟩ := info_parts Try.infoB
  have HZ2 := Lib.hid hz2; clear hz2
  have HR := Lib.hid (rright_any L v w h hN hnm hn)
  have HSl := Lib.hid h
  obtain ⟨ao, c, rfl, _⟩ := h.shape
  clear h
  have HE : Hid (packE L = if rtB L 0 4096 = true then (if (packL L).length ≤ 3072 then 0 else 5) else 1) := rfl
  have HP0 : Hid (packE L = 0 → packS L = bs (packed L)) := fun h => packS_zero h
  have HP1 : Hid (packE L ≠ 0 → packS L = ⟨#[]⟩) := fun h => packS_bad h
  generalize packE L = pe at *
  generalize packS L = ps at *
  cases hr : rtB L 0 4096
  case false =>
    have hpe : pe = 1 := by rw [HE.out, hr]; rfl
    subst hpe
    have hps := HP1.out (by decide)
    subst hps
    rw [hr] at HR
    go_enter Try.func19, Try.ntmps19
    go_wp2_with fail
    refine HR.out.mono ?_
    rintro e w1 ⟨rfl, hb⟩
    have HB := Lib.hid hb; clear hb
    go_wp2_with fail
    go_ret2
    exact ⟨rfl, HB.out⟩
  have hR := (rtB_iff _ _ _).1 hr
  rw [hr] at HR HE
  have HW := Lib.hid fun W hW => rbytes_any L (.slice ao L.length c) W (HSl.out.below hW) hR.1 hR.tiny
  have hfl := files_len L hR.tiny
  have h64 := hR.1
  have hv := Fr.varL_ten L.length (by omega)
  have hdl : (dirL L).length ≤ 30000 := by
    unfold dirL
    rw [List.length_append, List.length_append]
    have : ([67, 68, 88, 73] : List UInt8).length = 4 := rfl
    omega
  have hds : (bs (dirL L)).size ≤ 30000 := by rw [Fr.bs_size]; exact hdl
  have HCr := Lib.hid fun W => Fr.rcrc_any (bs (dirL L)) W (by unfold maxLen; omega)
  rw [bs_list] at HCr
  have HFx := Lib.hid fun W => Fr.rfixed_any (crcL (dirL L)) W (Fr.crcL_lt _)
  have hPL : Hid (bs (dirL L) ++ bs (fixL (crcL (dirL L))) = bs (packL L)) := by show _ = _; rw [bs_app]; rfl
  have hpl : (packL L).length = (dirL L).length + 4 := by unfold packL; rw [List.length_append]; rfl
  have hfs : (bs (fixL (crcL (dirL L)))).size = 4 := by rw [Fr.bs_size]; rfl
  have hps : (bs (packL L)).size = (packL L).length := Fr.bs_size _
  have hPd : Hid (packed L = packL L ++ List.replicate (3072 - (packL L).length) 0) := rfl
  obtain ⟨N, hNN⟩ : ∃ N, (packL L).length = N := ⟨_, rfl⟩
  rw [hNN] at HE hpl hps hPd
  have hPd2 : Hid (bs (packL L) ++ bs (List.replicate (3072 - N) 0) = bs (packed L)) := by show _ = _; rw [bs_app, hPd.out]
  clear hr hR hPd hNN
  generalize bs (packed L) = PB at *
  obtain ⟨D, hD⟩ : ∃ D, bs (dirL L) = D := ⟨_, rfl⟩
  obtain ⟨F4, hF4⟩ : ∃ F4, bs (fixL (crcL (dirL L))) = F4 := ⟨_, rfl⟩
  obtain ⟨PK, hPK⟩ : ∃ PK, bs (packL L) = PK := ⟨_, rfl⟩
  rw [hD] at hds HCr HW hPL
  rw [hF4] at HFx hPL hfs
  rw [hPK] at hps hPL hPd2
  have hadd := fun (W : World) => run_string_add_sum (P := Try.prog) W D F4 (by omega)
  rw [hPL.out] at hadd
  generalize crcL (dirL L) = cr at *
  clear hD hF4 hPK hPL
  by_cases h3 : N ≤ 3072
  · have hpe : pe = 0 := by rw [HE.out, if_pos rfl, if_pos h3]
    subst hpe
    have hps2 := HP0.out rfl
    subst hps2
    have e3 : ¬ ((3072 : Int) < (PK.size : Int)) := by omega
    have hmT : 3072 - (PK.size : Int) = ((3072 - N : Nat) : Int) := by omega
    have HMT := Lib.hid hmT; clear hmT
    have hms : 3072 - N ≤ 3072 := by omega
    have hPKs : PK.size ≤ 3072 := by omega
    clear hps hpl
    clear HE HP0 HP1
    go_enter Try.func19, Try.ntmps19
    go_wp2_with fail
    refine HR.out.mono ?_
    rintro e w1 ⟨rfl, hb⟩
    have HB := Lib.hid hb; clear hb
    go_wp2_with fail
    refine (HW.out _ HB.out).mono ?_
    rintro e w2 ⟨rfl, hb⟩
    have HB2 : Hid (Below w.heap.size w w2) := HB.out.trans (hb.mono HB.out.size)
    clear hb HB
    go_wp2_with fail
    refine (HCr.out _).mono ?_
    rintro e w3 ⟨rfl, rfl⟩
    go_wp2_with fail
    refine (HFx.out _).mono ?_
    rintro e w4 ⟨rfl, hb⟩
    have HB4 : Hid (Below w.heap.size w w4) := HB2.out.trans (hb.mono HB2.out.size)
    have hb4 := HB4.out.size
    clear hb HB2
    go_wp2_with (at_make; refine wpList_make_full _ rfl _ _ 44 rfl w4.heap.size 5 i0 (.int .u8 0) 1 Try.underlying44 hi hz0 hz1 _ _ _ _ (3072 - N) rfl rfl HMT.out HMT.out (by rw [HZ2.out]; omega) (by unfold maxLen; omega) (Nat.le_refl _) ?_)
    intro w5 hown hgrow
    rw [toList_madeCells_one] at hown
    have hconv := zero_text8 hown
    have HB5 : Hid (Below w.heap.size w w5) := HB4.out.grown hgrow hb4 (fun k h => by cases h)
    clear hown hgrow
    obtain ⟨Z, hZ⟩ : ∃ Z, bs (List.replicate (3072 - N) 0) = Z := ⟨_, rfl⟩
    have hZs : Z.size ≤ 3072 := by rw [← hZ, Fr.bs_size, List.length_replicate]; omega
    rw [hZ] at hconv hPd2
    have hadd2 := fun (W : World) => run_string_add_sum (P := Try.prog) W PK Z (by omega)
    rw [hPd2.out] at hadd2
    clear hZ
    go_wp2_with fail
    go_ret2
    exact ⟨rfl, HB5.out⟩
  · have hpe : pe = 5 := by rw [HE.out, if_pos rfl, if_neg h3]
    subst hpe
    have hps2 := HP1.out (by decide)
    subst hps2
    have e3 : (3072 : Int) < (PK.size : Int) := by omega
    clear hps hpl
    clear HE HP0 HP1
    go_enter Try.func19, Try.ntmps19
    go_wp2_with fail
    refine HR.out.mono ?_
    rintro e w1 ⟨rfl, hb⟩
    have HB := Lib.hid hb; clear hb
    go_wp2_with fail
    refine (HW.out _ HB.out).mono ?_
    rintro e w2 ⟨rfl, hb⟩
    have HB2 : Hid (Below w.heap.size w w2) := HB.out.trans (hb.mono HB.out.size)
    clear hb HB
    go_wp2_with fail
    refine (HCr.out _).mono ?_
    rintro e w3 ⟨rfl, rfl⟩
    go_wp2_with fail
    refine (HFx.out _).mono ?_
    rintro e w4 ⟨rfl, hb⟩
    have HB4 : Hid (Below w.heap.size w w4) := HB2.out.trans (hb.mono HB2.out.size)
    clear hb HB2
    go_wp2_with fail
    go_ret2
    exact ⟨rfl, HB4.out⟩
end Go.Proofs.Ytfmnbabkdpiboaa
