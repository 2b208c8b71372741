/- What the document's Pack answers. -/
import Derived.Test.YtfmnbabkdpiboaaZRRight
import Derived.Test.YtfmnbabkdpiboaaZIUnp
import Derived.Test.YtfmnbabkdpiboaaZWCrc
import Derived.Test.YtfmnbabkdpiboaaZIFileR
import Derived.Test.YtfmnbabkdpiboaaZWRead

namespace Go.Proofs.Ytfmnbabkdpiboaa
open Go.RowKit
open Fr (below_drewN varL textL bs fixL crcL)

theorem zero_text8 {B : Nat} {w : World} {g n : Nat} (h : w.ownsRow B 5 1 (.slice (some ⟨g, 0, none⟩) n n) n (List.replicate n (.int .u8 0))) :
    (convert 44 9 (.slice (some ⟨g, 0, none⟩) n n)).run Try.prog w = .ok (.string (bs (List.replicate n 0))) w := by
  have e : bs (List.replicate n 0) = strOfNums (List.replicate n 0) := by
    unfold bs strOfNums
    rw [List.map_replicate]; rfl
  rw [e]
  refine run_convert_bytes_arg w 44 5 Try.underlying44 Try.underlying5 g 0 n n (List.replicate n 0) (by simp) ?_ 9 Try.underlying9
  intro i hi
  rw [Nat.zero_add, World.ownsRow.cellAt h i (by omega)]
  simp [List.getD, hi]
set_option maxRecDepth 100000 in
set_option maxHeartbeats 4000000 in
theorem rpack_any (L : List Fl) (v : Value) (w : World) (h : SlF w v L) (hN : Nums64 L) (hnm : ∀ f ∈ L, f.name.size ≤ 1000000) (hn : L.length ≤ 100000) : Calls Try.prog 19 #[v] w fun e w' => e = .returned (.tuple #[.string (packS L), .int .i64 (packE L)]) ∧ Below w.heap.size w w' := by
  obtain ⟨i0, hi, hz0, hz1, hz2⟩ := info_parts Try.infoB
  have HZ2 := Lib.hid hz2; clear hz2
  have HR := Lib.hid (rright_any L v w h hN hnm hn)
  have HSl := Lib.hid h
  obtain ⟨ao, c, rfl, _⟩ := h.shape
  clear h
  have HE : Hid (packE L = if rtB L 0 4096 = true then (if (packL L).length ≤ 3072 then 0 else 5) else 1) := rfl
  have HP0 : Hid (packE L = 0 → packS L = bs (packed L)) := fun h => packS_zero h
  have HP1 : Hid (packE L ≠ 0 → packS L = ⟨#[]⟩) := fun h => packS_bad h
  generalize packE L = pe at *
  generalize packS L = ps at *
  cases hr : rtB L 0 4096
  case false =>
    have hpe : pe = 1 := by rw [HE.out, hr]; rfl
    subst hpe
    have hps := HP1.out (by decide)
    subst hps
    rw [hr] at HR
    go_enter Try.func19, Try.ntmps19
    go_wp2_with fail
    refine HR.out.mono ?_
    rintro e w1 ⟨rfl, hb⟩
    have HB := Lib.hid hb; clear hb
    go_wp2_with fail
    go_ret2
    exact ⟨rfl, HB.out⟩
  have hR := (rtB_iff _ _ _).1 hr
  rw [hr] at HR HE
  have HW := Lib.hid fun W hW => rbytes_any L (.slice ao L.length c) W (HSl.out.below hW) hR.1 hR.tiny
  have hfl := files_len L hR.tiny
  have h64 := hR.1
  have hv := Fr.varL_ten L.length (by omega)
  have hdl : (dirL L).length ≤ 30000 := by
    unfold dirL
    rw [List.length_append, List.length_append]
    have : ([67, 68, 88, 73] : List UInt8).length = 4 := rfl
    omega
  have hds : (bs (dirL L)).size ≤ 30000 := by rw [Fr.bs_size]; exact hdl
  have HCr := Lib.hid fun W => Fr.rcrc_any (bs (dirL L)) W (by unfold maxLen; omega)
  rw [bs_list] at HCr
  have HFx := Lib.hid fun W => Fr.rfixed_any (crcL (dirL L)) W (Fr.crcL_lt _)
  have hPL : Hid (bs (dirL L) ++ bs (fixL (crcL (dirL L))) = bs (packL L)) := by show _ = _; rw [bs_app]; rfl
  have hpl : (packL L).length = (dirL L).length + 4 := by unfold packL; rw [List.length_append]; rfl
  have hfs : (bs (fixL (crcL (dirL L)))).size = 4 := by rw [Fr.bs_size]; rfl
  have hps : (bs (packL L)).size = (packL L).length := Fr.bs_size _
  have hPd : Hid (packed L = packL L ++ List.replicate (3072 - (packL L).length) 0) := rfl
  obtain ⟨N, hNN⟩ : ∃ N, (packL L).length = N := ⟨_, rfl⟩
  rw [hNN] at HE hpl hps hPd
  have hPd2 : Hid (bs (packL L) ++ bs (List.replicate (3072 - N) 0) = bs (packed L)) := by show _ = _; rw [bs_app, hPd.out]
  clear hr hR hPd hNN
  generalize bs (packed L) = PB at *
  obtain ⟨D, hD⟩ : ∃ D, bs (dirL L) = D := ⟨_, rfl⟩
  obtain ⟨F4, hF4⟩ : ∃ F4, bs (fixL (crcL (dirL L))) = F4 := ⟨_, rfl⟩
  obtain ⟨PK, hPK⟩ : ∃ PK, bs (packL L) = PK := ⟨_, rfl⟩
  rw [hD] at hds HCr HW hPL
  rw [hF4] at HFx hPL hfs
  rw [hPK] at hps hPL hPd2
  have hadd := fun (W : World) => run_string_add_sum (P := Try.prog) W D F4 (by omega)
  rw [hPL.out] at hadd
  generalize crcL (dirL L) = cr at *
  clear hD hF4 hPK hPL
  by_cases h3 : N ≤ 3072
  · have hpe : pe = 0 := by rw [HE.out, if_pos rfl, if_pos h3]
    subst hpe
    have hps2 := HP0.out rfl
    subst hps2
    have e3 : ¬ ((3072 : Int) < (PK.size : Int)) := by omega
    have hmT : 3072 - (PK.size : Int) = ((3072 - N : Nat) : Int) := by omega
    have HMT := Lib.hid hmT; clear hmT
    have hms : 3072 - N ≤ 3072 := by omega
    have hPKs : PK.size ≤ 3072 := by omega
    clear hps hpl
    clear HE HP0 HP1
    go_enter Try.func19, Try.ntmps19
    go_wp2_with fail
    refine HR.out.mono ?_
    rintro e w1 ⟨rfl, hb⟩
    have HB := Lib.hid hb; clear hb
    go_wp2_with fail
    refine (HW.out _ HB.out).mono ?_
    rintro e w2 ⟨rfl, hb⟩
    have HB2 : Hid (Below w.heap.size w w2) := HB.out.trans (hb.mono HB.out.size)
    clear hb HB
    go_wp2_with fail
    refine (HCr.out _).mono ?_
    rintro e w3 ⟨rfl, rfl⟩
    go_wp2_with fail
    refine (HFx.out _).mono ?_
    rintro e w4 ⟨rfl, hb⟩
    have HB4 : Hid (Below w.heap.size w w4) := HB2.out.trans (hb.mono HB2.out.size)
    have hb4 := HB4.out.size
    clear hb HB2
    go_wp2_with (at_make; refine wpList_make_full _ rfl _ _ 44 rfl w4.heap.size 5 i0 (.int .u8 0) 1 Try.underlying44 hi hz0 hz1 _ _ _ _ (3072 - N) rfl rfl HMT.out HMT.out (by rw [HZ2.out]; omega) (by unfold maxLen; omega) (Nat.le_refl _) ?_)
    intro w5 hown hgrow
    rw [toList_madeCells_one] at hown
    have hconv := zero_text8 hown
    have HB5 : Hid (Below w.heap.size w w5) := HB4.out.grown hgrow hb4 (fun k h => by cases h)
    clear hown hgrow
    obtain ⟨Z, hZ⟩ : ∃ Z, bs (List.replicate (3072 - N) 0) = Z := ⟨_, rfl⟩
    have hZs : Z.size ≤ 3072 := by rw [← hZ, Fr.bs_size, List.length_replicate]; omega
    rw [hZ] at hconv hPd2
    have hadd2 := fun (W : World) => run_string_add_sum (P := Try.prog) W PK Z (by omega)
    rw [hPd2.out] at hadd2
    clear hZ
    go_wp2_with fail
    go_ret2
    exact ⟨rfl, HB5.out⟩
  · have hpe : pe = 5 := by rw [HE.out, if_pos rfl, if_neg h3]
    subst hpe
    have hps2 := HP1.out (by decide)
    subst hps2
    have e3 : (3072 : Int) < (PK.size : Int) := by omega
    clear hps hpl
    clear HE HP0 HP1
    go_enter Try.func19, Try.ntmps19
    go_wp2_with fail
    refine HR.out.mono ?_
    rintro e w1 ⟨rfl, hb⟩
    have HB := Lib.hid hb; clear hb
    go_wp2_with fail
    refine (HW.out _ HB.out).mono ?_
    rintro e w2 ⟨rfl, hb⟩
    have HB2 : Hid (Below w.heap.size w w2) := HB.out.trans (hb.mono HB.out.size)
    clear hb HB
    go_wp2_with fail
    refine (HCr.out _).mono ?_
    rintro e w3 ⟨rfl, rfl⟩
    go_wp2_with fail
    refine (HFx.out _).mono ?_
    rintro e w4 ⟨rfl, hb⟩
    have HB4 : Hid (Below w.heap.size w w4) := HB2.out.trans (hb.mono HB2.out.size)
    clear hb HB2
    go_wp2_with fail
    go_ret2
    exact ⟨rfl, HB4.out⟩
end Go.Proofs.Ytfmnbabkdpiboaa
/- The document's reader of a directory's bytes. -/
namespace Go.Proofs.Ytfmnbabkdpiboaa
open Go.RowKit
open Fr (rdV rdT bs str_len)

/-- The document's reader in memory: its second cell says that all was there so far. -/
def RrOK (w : World) (g : Nat) (o : Option (List UInt8)) : Prop := ∃ s b, w.heap[g]? = some (.cells #[.string s, .bool b] 79 (0, 0)) ∧ s.size ≤ 3072 ∧ (∀ l, o = some l → b = true ∧ s.data.toList = l) ∧ (o = none → b = false)
theorem RrOK.lt {w : World} {g : Nat} {o : Option (List UInt8)} (h : RrOK w g o) : g < w.heap.size := by
  obtain ⟨s, b, h, _⟩ := h
  exact (Array.getElem?_eq_some_iff.1 h).1
theorem RrOK.below {w w' : World} {g : Nat} {o : Option (List UInt8)} (h : RrOK w g o) (hb : Below w.heap.size w w') : RrOK w' g o := by
  have hl := h.lt
  obtain ⟨s, b, h, rest⟩ := h
  exact ⟨s, b, (hb.block g hl).trans h, rest⟩
theorem RrOK.only {w w' : World} {g : Nat} {o : Option (List UInt8)} (h : RrOK w g o) {S : Nat → Prop} (hb : Only S w w') (hS : ¬ S g) : RrOK w' g o := by
  have hl := h.lt
  obtain ⟨s, b, h, rest⟩ := h
  exact ⟨s, b, (hb.block g hl hS).trans h, rest⟩
theorem RrOK.drew {w : World} {g : Nat} {o : Option (List UInt8)} (h : RrOK w g o) : RrOK w.drew g o := by
  obtain ⟨s, b, h, rest⟩ := h
  exact ⟨s, b, h, rest⟩
theorem rr_bad {w : World} {g : Nat} {s : ByteArray} {b : Bool} (h : w.heap[g]? = some (.cells #[.string s, .bool b] 79 (0, 0))) (hs : s.size ≤ 3072) : RrOK (w.setCell ⟨g, 1, none⟩ (.bool false)) g none :=
  ⟨s, false, heap_setCell_at h _, hs, (fun l h => by cases h), fun _ => rfl⟩
theorem rr_on {w : World} {g : Nat} {s t : ByteArray} {b : Bool} (h : w.heap[g]? = some (.cells #[.string s, .bool b] 79 (0, 0))) (ht : t.size ≤ 3072) (hb : b = true) : RrOK (w.setCell ⟨g, 0, none⟩ (.string t)) g (some t.data.toList) :=
  ⟨t, b, heap_setCell_at h _, ht, (fun l h => by cases h; exact ⟨hb, rfl⟩), (fun h => by cases h)⟩
/-- A text put in where it is bad already: it stays so. -/
theorem rr_off {w : World} {g : Nat} {s t : ByteArray} (h : w.heap[g]? = some (.cells #[.string s, .bool false] 79 (0, 0))) (ht : t.size ≤ 3072) : RrOK (w.setCell ⟨g, 0, none⟩ (.string t)) g none :=
  ⟨t, false, heap_setCell_at h _, ht, (fun l h => by cases h), fun _ => rfl⟩
set_option maxRecDepth 100000 in
set_option maxHeartbeats 2000000 in
/-- A number up to a bound: what is told of it, if all was there so far; else a number up to the bound, and it stays bad. -/
theorem rnum_any (most : Nat) (hm : most ≤ 4294967295) (o : Option (List UInt8)) (g : Nat) (w : World) (h : RrOK w g o) :
    Calls Try.prog 43 #[.pointer (some ⟨g, 0, none⟩), .int .i64 (most : Int)] w fun e w' => ∃ q : Nat, e = .returned (.int .i64 (q : Int)) ∧ q ≤ most ∧ (o ≠ none → q = (nNum most o).1) ∧ Hid (RrOK w' g (nNum most o).2) ∧ Hid (Only (fun k => k = g) w w') := by
  obtain ⟨s, b, hg, hs, h1, h2⟩ := h
  have hlt := (Array.getElem?_eq_some_iff.1 hg).1
  have x0 : w.cell? ⟨g, 0, none⟩ = some (.string s) := cell_at hg 0
  have HX : Hid (∀ W, Below w.heap.size w W → W.heap[g]? = some (.cells #[.string s, .bool b] 79 (0, 0)) ∧ W.cell? ⟨g, 1, none⟩ = some (.bool b) ∧ W.cell? ⟨g, 0, none⟩ = some (.string s) ∧ W.frozen? ⟨g, 1, none⟩ = false ∧ W.frozen? ⟨g, 0, none⟩ = false) := fun W hW => by
    have e := (hW.block g hlt).trans hg
    exact ⟨e, cell_at e 1, cell_at e 0, free_at e 1, free_at e 0⟩
  have HO : Hid (∀ (W : World) (i : Nat) (u : Value), Below w.heap.size w W → Only (fun k => k = g) w (W.setCell ⟨g, i, none⟩ u)) := fun W i u hW => (Only.of_below (fun k => k = g) hW (Nat.le_refl _)).setCell (p := ⟨g, i, none⟩) (fun _ => rfl) u
  have wm : IntKind.u64.wrap (most : Int) = (most : Int) := by rw [IntKind.wrap_u64]; omega
  have hz : (nNum most none).2 = none := rfl
  cases hv : rdV s.data.toList with
  | none =>
    have hz : nNum most o = (0, none) := by
      unfold nNum
      cases o with
      | none => rfl
      | some l => have := (h1 l rfl).2; subst this; simp [pNum, hv]
    rw [hz]
    have C := Lib.hid (Fr.rtoVar_no w (by unfold maxLen; omega) hv)
    clear hv h1 h2 hz hg
    go_enter Try.func43, Try.ntmps43
    go_wp2_with fail
    refine C.out.mono ?_
    rintro e w1 ⟨rfl, hb1⟩
    have HB := Lib.hid hb1; clear hb1 C
    obtain ⟨e1, y1, y0, f1, f0⟩ := HX.out w1 HB.out
    have HE := Lib.hid e1; clear e1 x0
    go_wp2
    go_ret
    exact ⟨0, rfl, Nat.zero_le _, (fun _ => rfl), rr_bad HE.out hs, HO.out w1 1 _ HB.out⟩
  | some p =>
    obtain ⟨v, r⟩ := p
    have C := Lib.hid (Fr.rtoVar_yes w (by unfold maxLen; omega) hv)
    have hvb := (Fr.rdV_some hv).2.1
    have hrl := Fr.rest_le hv
    rw [str_len] at hrl
    have hQ := Fr.bs_size r
    by_cases hmo : v ≤ most
    · have z1 : ¬ ((most : Int) < (v : Int)) := by omega
      have HR : Hid (∀ W : World, W.heap[g]? = some (.cells #[.string s, .bool b] 79 (0, 0)) → RrOK (W.setCell ⟨g, 0, none⟩ (.string (bs r))) g (nNum most o).2) := fun W hW => by
        cases o with
        | none =>
          obtain rfl := h2 rfl
          exact rr_off hW (by rw [hQ]; omega)
        | some l =>
          obtain ⟨rfl, rfl⟩ := h1 l rfl
          have hz : nNum most (some s.data.toList) = (v, some r) := by simp [nNum, pNum, hv, hmo]
          rw [hz]
          have := rr_on (t := bs r) hW (by rw [hQ]; omega) rfl
          rw [bs_list] at this
          exact this
      have HV : Hid (o ≠ none → v = (nNum most o).1) := fun ho => by
        cases o with
        | none => exact absurd rfl ho
        | some l =>
          obtain ⟨_, rfl⟩ := h1 l rfl
          simp [nNum, pNum, hv, hmo]
      have ww : IntKind.i64.wrap (v : Int) = (v : Int) := IntWalk.i64_in _ (by omega)
      clear hv h1 h2 hz hg
      generalize bs r = Q at *
      go_enter Try.func43, Try.ntmps43
      go_wp2_with fail
      refine C.out.mono ?_
      rintro e w1 ⟨rfl, hb1⟩
      have HB := Lib.hid hb1; clear hb1 C
      obtain ⟨e1, y1, y0, f1, f0⟩ := HX.out w1 HB.out
      have HE := Lib.hid e1; clear e1 x0
      go_wp2
      go_ret
      exact ⟨v, rfl, hmo, HV.out, HR.out w1 HE.out, HO.out w1 0 _ HB.out⟩
    · have hz : nNum most o = (0, none) := by
        unfold nNum
        cases o with
        | none => rfl
        | some l => have := (h1 l rfl).2; subst this; simp [pNum, hv, hmo]
      rw [hz]
      have z1 : (most : Int) < (v : Int) := by omega
      clear hv h1 h2 hz hg
      generalize bs r = Q at *
      go_enter Try.func43, Try.ntmps43
      go_wp2_with fail
      refine C.out.mono ?_
      rintro e w1 ⟨rfl, hb1⟩
      have HB := Lib.hid hb1; clear hb1 C
      obtain ⟨e1, y1, y0, f1, f0⟩ := HX.out w1 HB.out
      have HE := Lib.hid e1; clear e1 x0
      go_wp2
      go_ret
      exact ⟨0, rfl, Nat.zero_le _, (fun _ => rfl), rr_bad HE.out hs, HO.out w1 1 _ HB.out⟩
end Go.Proofs.Ytfmnbabkdpiboaa
/- A file, read by the document's reader. -/
namespace Go.Proofs.Ytfmnbabkdpiboaa
open Go.RowKit
open Fr (rdV rdT bs str_len)

theorem _root_.Go.Proofs.Try.infoRF2 : (Try.prog.info? 58).map (fun i => (i.zero, i.size, i.bytes)) = some (some (.agg #[.string ⟨#[]⟩, .bool false, .int .i64 0, .slice none 0 0]), 4, 56) := by kernel_rfl
theorem nExts_stay {o : Option (List UInt8)} {j m : Nat} (h : (nExts o j).2 = none) (hm : j ≤ m) : (nExts o m).2 = none := by
  induction m with
  | zero => obtain rfl : j = 0 := by omega
            exact h
  | succ m ih =>
    by_cases e : j = m + 1
    · subst e; exact h
    · rw [nExts]
      dsimp only
      rw [ih (by omega)]
      rfl
/-- Of small numbers. -/
structure SmallF (f : Fl) : Prop where
  name : f.name.size ≤ 3072
  size : 0 ≤ f.size ∧ f.size ≤ 2147483647
  few : f.ext.length ≤ 16
  ext : ∀ x ∈ f.ext, 0 ≤ x.1 ∧ x.1 ≤ 4096 ∧ 0 ≤ x.2 ∧ x.2 ≤ 4096
set_option maxRecDepth 100000 in
set_option maxHeartbeats 8000000 in
theorem rone_any (l : List UInt8) (g : Nat) (w : World) (h : RrOK w g (some l)) :
    Calls Try.prog 44 #[.pointer (some ⟨g, 0, none⟩)] w fun e w' => ∃ f ve, e = .returned (fileAgg f ve) ∧ Hid (OwnE w.heap.size w' ve f.ext) ∧ Hid (SmallF f) ∧ Hid ((nFile (some l)).2 ≠ none → f = (nFile (some l)).1) ∧ Hid (RrOK w' g (nFile (some l)).2) ∧ Hid (Only (fun k => k = g) w w') := by
  obtain ⟨i0, hi, hz0, hz1, hz2⟩ := info_parts Try.infoX
  have HZ2 := Lib.hid hz2; clear hz2
  have hg := h.lt
  obtain ⟨s, b, hgh, hs, h1, h2⟩ := h
  obtain ⟨rfl, rfl⟩ := h1 l rfl
  clear h1 h2
  have hgw : g ≠ w.heap.size := by omega
  have HXX : Hid (∀ W, Below w.heap.size w W → W.heap[g]? = some (.cells #[.string s, .bool true] 79 (0, 0)) ∧ W.cell? ⟨g, 1, none⟩ = some (.bool true) ∧ W.cell? ⟨g, 0, none⟩ = some (.string s) ∧ W.frozen? ⟨g, 1, none⟩ = false ∧ W.frozen? ⟨g, 0, none⟩ = false) := fun W hW => by
    have e := (hW.block g hg).trans hgh
    exact ⟨e, cell_at e 1, cell_at e 0, free_at e 1, free_at e 0⟩
  obtain ⟨A0, hA0⟩ : ∃ A0, A0 = w.alloc (.cells #[.string ⟨#[]⟩, .bool false, .int .i64 0, .slice none 0 0] 58) := ⟨_, rfl⟩
  have hA1 : A0.heap[w.heap.size]? = some (.cells #[.string ⟨#[]⟩, .bool false, .int .i64 0, .slice none 0 0] 58 (0, 0)) := by rw [hA0]; exact heap_alloc_new _ _
  have hAB : Below w.heap.size w A0 := by rw [hA0]; exact (Below.refl _ _).alloc (Nat.le_refl _) _
  have hAs : A0.heap.size = w.heap.size + 1 := by rw [hA0]; simp
  obtain ⟨_, _, x0, _, _⟩ := HXX.out A0 hAB
  rw [hA0] at x0
  have HA0 := Lib.hid hA0
  clear hA0
  cases hv : rdT s.data.toList with
  | none =>
    have hn : (nFile (some s.data.toList)).2 = none := nFile_no (by unfold pFile; rw [hv]; rfl)
    rw [hn]
    have C := Lib.hid fun W => Fr.rtoText_no W (by unfold maxLen; omega) hv
    clear hv hn
    go_enter Try.func44, Try.ntmps44
    go_wp2_with fail
    rw [← HA0.out]
    refine (C.out _).mono ?_
    rintro e w1 ⟨rfl, hb1⟩
    have hb2 : Below w.heap.size w w1 := hAB.trans (hb1.mono (by omega))
    have hr1 := (hb1.block w.heap.size (by omega)).trans hA1
    have HB := Lib.hid hb2
    have HR1 := Lib.hid hr1
    obtain ⟨e1, y1, y0, f1, f0⟩ := HXX.out w1 hb2
    have HE := Lib.hid e1
    have d0 := cell_at hr1 0; have d1 := cell_at hr1 1; have d2 := cell_at hr1 2; have d3 := cell_at hr1 3
    have g0 := free_at hr1 0; have g1 := free_at hr1 1; have g2 := free_at hr1 2; have g3 := free_at hr1 3
    clear e1 hb1 hb2 hr1 C x0 hA1 hAB
    go_wp2_with fail
    have hYh : (((((w1.setCell ⟨g, 1, none⟩ (.bool false)).setCell ⟨w.heap.size, 0, none⟩ (.string ⟨#[]⟩)).setCell ⟨w.heap.size, 1, none⟩ (.bool false)).setCell ⟨w.heap.size, 2, none⟩ (.int .i64 0)).setCell ⟨w.heap.size, 3, none⟩ (.slice none 0 0)).heap[w.heap.size]? = some (.cells #[.string ⟨#[]⟩, .bool false, .int .i64 0, .slice none 0 0] 58 (0, 0)) := by
      have h0 : (w1.setCell ⟨g, 1, none⟩ (.bool false)).heap[w.heap.size]? = some (.cells #[.string ⟨#[]⟩, .bool false, .int .i64 0, .slice none 0 0] 58 (0, 0)) := (Below.heap_setCell _ _ _ _ (Ne.symm hgw)).trans HR1.out
      rw [heap_setCell_at (i := 3) (heap_setCell_at (i := 2) (heap_setCell_at (i := 1) (heap_setCell_at (i := 0) h0 (.string ⟨#[]⟩)) (.bool false)) (.int .i64 0)) (.slice none 0 0)]; rfl
    have hOZ : ∀ W0 : World, ∀ x0 x1 x2 x3, Only (fun b => b = w.heap.size) W0 ((((W0.setCell ⟨w.heap.size, 0, none⟩ x0).setCell ⟨w.heap.size, 1, none⟩ x1).setCell ⟨w.heap.size, 2, none⟩ x2).setCell ⟨w.heap.size, 3, none⟩ x3) := fun W0 x0 x1 x2 x3 => ((((Only.refl (fun b => b = w.heap.size) W0).setCell (p := ⟨w.heap.size, 0, none⟩) (fun _ => rfl) _).setCell (p := ⟨w.heap.size, 1, none⟩) (fun _ => rfl) _).setCell (p := ⟨w.heap.size, 2, none⟩) (fun _ => rfl) _).setCell (p := ⟨w.heap.size, 3, none⟩) (fun _ => rfl) _
    have hRb := rr_bad HE.out hs
    have hO1 : Only (fun k => k = g) w (w1.setCell ⟨g, 1, none⟩ (.bool false)) := (Only.of_below (fun k => k = g) HB.out (Nat.le_refl _)).setCell (p := ⟨g, 1, none⟩) (fun _ => rfl) _
    refine bodyPost_ret (v := .agg #[.string ⟨#[]⟩, .bool false, .int .i64 0, .slice none 0 0]) (results_cell_row rfl _ _ w.heap.size 58 _ _ _ rfl hYh Try.underlying58 rfl (by kernel_rfl)) rfl ?_
    refine ⟨⟨⟨#[]⟩, false, 0, []⟩, .slice none 0 0, rfl, OwnE.nil _ _, ?_, (fun h => absurd rfl h), hRb.only (hOZ _ _ _ _ _) hgw, hO1.trans (hOZ _ _ _ _ _) (fun i hi e => by omega)⟩
    exact ⟨by show (0 : Nat) ≤ _; omega, by dsimp only; omega, by simp, by simp⟩
  | some p =>
    obtain ⟨t, r⟩ := p
    have hrl := Fr.rdT_some hv
    have hlen : t.length ≤ 3072 ∧ r.length ≤ 3072 := by
      have h3 := congrArg List.length hrl
      unfold Fr.textL at h3
      rw [str_len] at h3
      simp only [List.length_append] at h3
      omega
    have hnt : nTxt (some s.data.toList) = (bs t, some r) := by simp [nTxt, hv, bs]
    have hNF : nFile (some s.data.toList) = (⟨bs t, (nNum 1 (some r)).1 == 1, ((nNum 2147483647 (nNum 1 (some r)).2).1 : Int), (nExts (nNum 16 (nNum 2147483647 (nNum 1 (some r)).2).2).2 (nNum 16 (nNum 2147483647 (nNum 1 (some r)).2).2).1).1⟩, (nExts (nNum 16 (nNum 2147483647 (nNum 1 (some r)).2).2).2 (nNum 16 (nNum 2147483647 (nNum 1 (some r)).2).2).1).2) := by
      unfold nFile
      rw [hnt]
    have HNF := Lib.hid hNF
    have C := Lib.hid fun W => Fr.rtoText_yes W (by unfold maxLen; omega) hv
    have hQ := Fr.bs_size r
    have hP := Fr.bs_size t
    have HRo : Hid (∀ W : World, W.heap[g]? = some (.cells #[.string s, .bool true] 79 (0, 0)) → RrOK (W.setCell ⟨g, 0, none⟩ (.string (bs r))) g (some r)) := fun W hW => by
      have := rr_on (t := bs r) hW (by rw [hQ]; omega) rfl
      rw [bs_list] at this
      exact this
    have HN1 := Lib.hid fun W h => rnum_any 1 (by omega) (some r) g W h
    have HN2 := Lib.hid fun W h => rnum_any 2147483647 (by omega) (nNum 1 (some r)).2 g W h
    have HN3 := Lib.hid fun W h => rnum_any 16 (by omega) (nNum 2147483647 (nNum 1 (some r)).2).2 g W h
    generalize hg3 : nNum 16 (nNum 2147483647 (nNum 1 (some r)).2).2 = q3 at *
    have hst3 : (nNum 2147483647 (nNum 1 (some r)).2).2 = none → q3.2 = none := fun h => by rw [← hg3, h]; rfl
    generalize hg2 : nNum 2147483647 (nNum 1 (some r)).2 = q2 at *
    have hst2 : (nNum 1 (some r)).2 = none → q2.2 = none := fun h => by rw [← hg2, h]; rfl
    generalize hg1 : nNum 1 (some r) = q1 at *
    obtain ⟨vs, o2⟩ := q1
    obtain ⟨vz, o3⟩ := q2
    obtain ⟨m, o4⟩ := q3
    dsimp only at *
    rw [hNF]
    have HS3 := Lib.hid hst3; have HS2 := Lib.hid hst2
    clear hNF hnt hv hrl hg1 hg2 hg3 hst3 hst2
    generalize bs r = Q at *
    generalize bs t = T at *
    go_enter Try.func44, Try.ntmps44
    go_wp2_with fail
    rw [← HA0.out]
    refine (C.out _).mono ?_
    rintro e w1 ⟨rfl, hb1⟩
    have hb2 : Below w.heap.size w w1 := hAB.trans (hb1.mono (by omega))
    have hr1 := (hb1.block w.heap.size (by omega)).trans hA1
    have HB := Lib.hid hb2
    have HR1 := Lib.hid hr1
    obtain ⟨e1, y1, y0, f1, f0⟩ := HXX.out w1 hb2
    have HE := Lib.hid e1
    clear e1 hb1 hb2 hr1 C x0 hA1 hAB
    go_wp2_with fail
    have hw1 := HB.out.size
    have hx1 : (w1.setCell ⟨g, 0, none⟩ (.string Q)).heap.size = w1.heap.size := by simp [World.setCell]
    have hRx := HRo.out w1 HE.out
    have hOx : Only (fun k => k = g) w (w1.setCell ⟨g, 0, none⟩ (.string Q)) := (Only.of_below (fun k => k = g) HB.out (Nat.le_refl _)).setCell (p := ⟨g, 0, none⟩) (fun _ => rfl) _
    have hr0 : (w1.setCell ⟨g, 0, none⟩ (.string Q)).heap[w.heap.size]? = some (.cells #[.string ⟨#[]⟩, .bool false, .int .i64 0, .slice none 0 0] 58 (0, 0)) := (Below.heap_setCell _ _ _ _ (Ne.symm hgw)).trans HR1.out
    obtain ⟨X0, hX0⟩ : ∃ X0, w1.setCell ⟨g, 0, none⟩ (.string Q) = X0 := ⟨_, rfl⟩
    rw [hX0] at hx1 hRx hOx hr0 ⊢
    have hF := heap_alloc_new X0 (.cells #[.string T, .bool false, .int .i64 0, .slice none 0 0] 58)
    obtain ⟨f, hfe⟩ : ∃ f, w1.heap.size = f := ⟨_, rfl⟩
    rw [hx1, hfe] at hF
    have hrl0 : w.heap.size < X0.heap.size := (Array.getElem?_eq_some_iff.1 hr0).1
    have hwf : w.heap.size < f := by omega
    have hgf : g ≠ f := by omega
    rw [hfe]
    obtain ⟨X, hX⟩ : ∃ X, X0.alloc (.cells #[.string T, .bool false, .int .i64 0, .slice none 0 0] 58) = X := ⟨_, rfl⟩
    have hbX : Below X0.heap.size X0 X := by rw [← hX]; exact (Below.refl _ _).alloc (Nat.le_refl _) _
    rw [hX] at hF ⊢
    have HRX := Lib.hid (hRx.below hbX)
    have HXX2 := Lib.hid ((hbX.block w.heap.size hrl0).trans hr0)
    have HFX := Lib.hid hF
    have HOX : Hid (Only (fun k => k = g) w X) := hOx.trans (Only.of_below (fun k => k = g) hbX (Nat.le_refl _)) (fun _ _ h => h)
    clear hw1 hx1 hRx hOx hr0 hX0 hF hrl0 hX hbX hfe y1 y0 f1 f0 HE HR1 HB HRo HXX
    clear X0 w1
    refine (HN1.out _ HRX.out).mono ?_
    rintro e w2 ⟨q1, rfl, hq1, hq1e, HR2, HO2⟩
    obtain rfl : q1 = vs := hq1e (by simp)
    have hf2 := (HO2.out.block f (Array.getElem?_eq_some_iff.1 HFX.out).1 (Ne.symm hgf)).trans HFX.out
    have hx2 := (HO2.out.block w.heap.size (Array.getElem?_eq_some_iff.1 HXX2.out).1 (Ne.symm hgw)).trans HXX2.out
    have HF2 := Lib.hid hf2; have HX2 := Lib.hid hx2
    have HOw2 : Hid (Only (fun k => k = g) w w2) := HOX.out.trans HO2.out (fun _ _ h => h)
    have c1 := cell_at hf2 1
    have e1 := free_at hf2 1
    have hs1 : ((q1 : Int) == 1) = (q1 == 1) := by rcases (by omega : q1 = 0 ∨ q1 = 1) with rfl | rfl <;> rfl
    obtain ⟨sh, hsh⟩ : ∃ sh, (q1 == 1) = sh := ⟨_, rfl⟩
    rw [hsh] at hs1
    have HSH := Lib.hid hsh
    clear hf2 hx2 HN1 HRX HFX HXX2 HOX HO2 hsh hq1e
    have HS2w : Hid (∀ (W : World) (i : Nat) (u : Value) (cs : Array Value) (o : Option (List UInt8)), W.heap[f]? = some (.cells cs 58 (0, 0)) → RrOK W g o → Only (fun k => k = g) w W → W.heap[w.heap.size]? = some (.cells #[.string ⟨#[]⟩, .bool false, .int .i64 0, .slice none 0 0] 58 (0, 0)) →
        (W.setCell ⟨f, i, none⟩ u).heap[f]? = some (.cells (cs.setIfInBounds i u) 58 (0, 0)) ∧ RrOK (W.setCell ⟨f, i, none⟩ u) g o ∧ Only (fun k => k = g) w (W.setCell ⟨f, i, none⟩ u) ∧ (W.setCell ⟨f, i, none⟩ u).heap[w.heap.size]? = some (.cells #[.string ⟨#[]⟩, .bool false, .int .i64 0, .slice none 0 0] 58 (0, 0))) := fun W i u cs o h1 h2 h3 h4 => by
      have hO : Only (fun k => k = f) W (W.setCell ⟨f, i, none⟩ u) := (Only.refl (fun k => k = f) W).setCell (p := ⟨f, i, none⟩) (fun _ => rfl) u
      exact ⟨heap_setCell_at h1 u, h2.only hO hgf, h3.setCell (p := ⟨f, i, none⟩) (fun h => absurd (show f < w.heap.size from h) (by omega)) u, (Below.heap_setCell _ _ _ _ (Nat.ne_of_lt hwf)).trans h4⟩
    obtain ⟨hf3, hr3, ho3, hx3⟩ := HS2w.out w2 1 (.bool sh) _ _ HF2.out HR2.out HOw2.out HX2.out
    have HF3 : Hid ((w2.setCell ⟨f, 1, none⟩ (.bool sh)).heap[f]? = some (.cells #[.string T, .bool sh, .int .i64 0, .slice none 0 0] 58 (0, 0))) := hf3
    have HR3 := Lib.hid hr3; have HO3 := Lib.hid ho3; have HX3 := Lib.hid hx3
    clear hf3 hr3 ho3 hx3 HR2 HOw2 HX2 HF2
    go_wp2_with fail
    obtain ⟨W3, hW3⟩ : ∃ W3, w2.setCell ⟨f, 1, none⟩ (.bool sh) = W3 := ⟨_, rfl⟩
    rw [hW3] at HF3 HR3 HO3 HX3 ⊢
    clear hW3 c1 e1 hs1
    refine (HN2.out _ HR3.out).mono ?_
    rintro e w4 ⟨qz, rfl, hqz, hqze, HR4, HO4⟩
    have hf4 := (HO4.out.block f (Array.getElem?_eq_some_iff.1 HF3.out).1 (Ne.symm hgf)).trans HF3.out
    have hx4 := (HO4.out.block w.heap.size (Array.getElem?_eq_some_iff.1 HX3.out).1 (Ne.symm hgw)).trans HX3.out
    have HOw4 : Hid (Only (fun k => k = g) w w4) := HO3.out.trans HO4.out (fun _ _ h => h)
    have HZE := Lib.hid hqze
    have c2 := cell_at hf4 2
    have e2 := free_at hf4 2
    obtain ⟨hf5, hr5, ho5, hx5⟩ := HS2w.out w4 2 (.int .i64 (qz : Int)) _ _ hf4 HR4.out HOw4.out hx4
    have HF5 : Hid ((w4.setCell ⟨f, 2, none⟩ (.int .i64 (qz : Int))).heap[f]? = some (.cells #[.string T, .bool sh, .int .i64 (qz : Int), .slice none 0 0] 58 (0, 0))) := hf5
    have HR5 := Lib.hid hr5; have HO5 := Lib.hid ho5; have HX5 := Lib.hid hx5
    clear hf5 hr5 ho5 hx5 hf4 hx4 HOw4 HR4 HO4 HF3 HR3 HO3 HX3 hqze HN2
    go_wp2_with fail
    obtain ⟨W5, hW5⟩ : ∃ W5, w4.setCell ⟨f, 2, none⟩ (.int .i64 (qz : Int)) = W5 := ⟨_, rfl⟩
    rw [hW5] at HF5 HR5 HO5 HX5 ⊢
    clear hW5 c2 e2
    refine (HN3.out _ HR5.out).mono ?_
    rintro e w6 ⟨q16, rfl, hq16, hq16e, HR6, HO6⟩
    have HF6 := Lib.hid ((HO6.out.block f (Array.getElem?_eq_some_iff.1 HF5.out).1 (Ne.symm hgf)).trans HF5.out)
    have HX6 := Lib.hid ((HO6.out.block w.heap.size (Array.getElem?_eq_some_iff.1 HX5.out).1 (Ne.symm hgw)).trans HX5.out)
    have HOw6 : Hid (Only (fun k => k = g) w w6) := HO5.out.trans HO6.out (fun _ _ h => h)
    have HME := Lib.hid hq16e
    clear HF5 HR5 HO5 HX5 HO6 hq16e HN3
    have HAny := Lib.hid fun (oo : Option (List UInt8)) W h => rnum_any 4096 (by omega) oo g W h
    go_wp2_with fail
    go_loopw [8, 9, 10] (fun jv _ _ wr => ∃ (j : Nat) (ev : Value) (E : List (Int × Int)), j ≤ q16 ∧ jv = .int .i64 (j : Int) ∧ E.length = j ∧ Hid (wr.heap[f]? = some (.cells #[.string T, .bool sh, .int .i64 (qz : Int), ev] 58 (0, 0))) ∧ Hid (wr.heap[w.heap.size]? = some (.cells #[.string ⟨#[]⟩, .bool false, .int .i64 0, .slice none 0 0] 58 (0, 0))) ∧ Hid (OwnE w.heap.size wr ev E) ∧ Hid (∀ x ∈ E, 0 ≤ x.1 ∧ x.1 ≤ 4096 ∧ 0 ≤ x.2 ∧ x.2 ≤ 4096) ∧ Hid ((nExts o4 j).2 ≠ none → E = (nExts o4 j).1) ∧ Hid (RrOK wr g (nExts o4 j).2) ∧ Hid (Only (fun k => k = g) w wr)) (fun jv _ _ _ => q16 - (intOf jv).toNat)
    case atStart => exact ⟨0, .slice none 0 0, [], Nat.zero_le _, rfl, rfl, HF6, HX6, OwnE.nil _ _, (show ∀ x ∈ ([] : List (Int × Int)), 0 ≤ x.1 ∧ x.1 ≤ 4096 ∧ 0 ≤ x.2 ∧ x.2 ≤ 4096 from fun x hx => by cases hx), (show (nExts o4 0).2 ≠ none → [] = (nExts o4 0).1 from fun _ => rfl), HR6, HOw6⟩
    case round =>
      obtain ⟨j, ev, E, hj, rfl, hEl, HF, HX, HO, HSm, HEq, HR, HOn⟩ := hrel
      clear HF6 HX6 HR6 HOw6
      have hfl : f < wr.heap.size := (Array.getElem?_eq_some_iff.1 HF.out).1
      have hrl : w.heap.size < wr.heap.size := (Array.getElem?_eq_some_iff.1 HX.out).1
      obtain ⟨ao, ac, hev⟩ := own_shapeE HO.out
      subst hev
      have HOj : Hid (wr.ownsRow w.heap.size 52 2 (.slice ao j ac) j (flatE E)) := by
        have := HO.out
        unfold OwnE at this
        rw [hEl] at this
        exact this
      rw [hEl] at HF
      clear HO
      -- what is told at the end
      have HEnd : Hid ((nExts o4 j).2 = none ∨ j = q16 → (nExts o4 m).2 = (nExts o4 j).2 ∧ ((nExts o4 m).2 ≠ none → (⟨T, sh, (qz : Int), E⟩ : Fl) = ⟨T, q1 == 1, (vz : Int), (nExts o4 m).1⟩)) := fun hor => by
        by_cases ho3 : o3 = none
        · have h4 := HS3.out ho3
          rw [h4, nExts_none, nExts_none]
          exact ⟨rfl, fun h => absurd rfl h⟩
        · obtain rfl := HME.out ho3
          cases hst : (nExts o4 j).2 with
          | none =>
            rw [nExts_stay hst hj]
            exact ⟨rfl, fun h => absurd rfl h⟩
          | some lj =>
            obtain rfl : j = q16 := by
              rcases hor with h | h
              · rw [hst] at h; cases h
              · exact h
            refine ⟨hst, fun h => ?_⟩
            have h5 := HEq.out h
            have h6 : o2 ≠ none := fun h => ho3 (by have := HS2.out h; exact this)
            rw [HZE.out h6, ← HSH.out, h5]
      have HEp : Hid ((nExts o4 j).2 = none ∨ j = q16 → ∀ W, Only (fun b => b = w.heap.size) wr W → ∃ fl ve, (Value.agg #[.string T, .bool sh, .int .i64 (qz : Int), .slice ao j ac]) = fileAgg fl ve ∧ Hid (OwnE w.heap.size W ve fl.ext) ∧ Hid (SmallF fl) ∧ Hid ((nExts o4 m).2 ≠ none → fl = ⟨T, q1 == 1, (vz : Int), (nExts o4 m).1⟩) ∧ Hid (RrOK W g (nExts o4 m).2) ∧ Hid (Only (fun k => k = g) w W)) := fun hor W hW => by
        obtain ⟨h1, h2⟩ := HEnd.out hor
        refine ⟨⟨T, sh, (qz : Int), E⟩, .slice ao j ac, rfl, ?_, ⟨by dsimp only; omega, by dsimp only; omega, by dsimp only; omega, HSm.out⟩, h2, ?_, ?_⟩
        · have h1 := HOj.out
          have h2 := own_not h1 HX.out (by decide)
          have h3 : W.ownsRow w.heap.size 52 2 (.slice ao j ac) j (flatE E) := by
            refine ⟨h1.1, ?_⟩
            rcases h1.2 with hn | ⟨q, cap, cur, hq, hbg, hgq, rest⟩
            · exact .inl hn
            · refine .inr ⟨q, cap, cur, hq, hbg, ?_, rest⟩
              rw [hW.block q (Array.getElem?_eq_some_iff.1 hgq).1 (fun e => by subst e; rw [hq] at h2; exact h2 rfl)]
              exact hgq
          show World.ownsRow _ _ _ _ _ _ _
          rw [hEl]; exact h3
        · rw [h1]; exact HR.out.only hW hgw
        · exact HOn.out.trans (Only.mono hW (T := fun k => k = w.heap.size) (fun _ _ h => h)) (T := fun k => k = w.heap.size) (fun i hi h => by omega)
      have HFin : Hid (∀ X, (nExts o4 j).2 = none ∨ j = q16 → X = ((((wr.setCell ⟨w.heap.size, 0, none⟩ (.string T)).setCell ⟨w.heap.size, 1, none⟩ (.bool sh)).setCell ⟨w.heap.size, 2, none⟩ (.int .i64 (qz : Int))).setCell ⟨w.heap.size, 3, none⟩ (.slice ao j ac)) →
          X.heap[w.heap.size]? = some (.cells #[.string T, .bool sh, .int .i64 (qz : Int), .slice ao j ac] 58 (0, 0)) ∧ ∃ fl ve, (Value.agg #[.string T, .bool sh, .int .i64 (qz : Int), .slice ao j ac]) = fileAgg fl ve ∧ Hid (OwnE w.heap.size X ve fl.ext) ∧ Hid (SmallF fl) ∧ Hid ((nExts o4 m).2 ≠ none → fl = ⟨T, q1 == 1, (vz : Int), (nExts o4 m).1⟩) ∧ Hid (RrOK X g (nExts o4 m).2) ∧ Hid (Only (fun k => k = g) w X)) := fun X hor hX => by
        subst hX
        refine ⟨?_, HEp.out hor _ ?_⟩
        · rw [heap_setCell_at (i := 3) (heap_setCell_at (i := 2) (heap_setCell_at (i := 1) (heap_setCell_at (i := 0) HX.out (.string T)) (.bool sh)) (.int .i64 (qz : Int))) (.slice ao j ac)]; rfl
        · exact ((((Only.refl (fun b => b = w.heap.size) wr).setCell (p := ⟨w.heap.size, 0, none⟩) (fun _ => rfl) _).setCell (p := ⟨w.heap.size, 1, none⟩) (fun _ => rfl) _).setCell (p := ⟨w.heap.size, 2, none⟩) (fun _ => rfl) _).setCell (p := ⟨w.heap.size, 3, none⟩) (fun _ => rfl) _
      have e0 : wr.cell? ⟨f, 0, none⟩ = some (.string T) := by rw [cell_at HF.out]; rfl
      have e1 : wr.cell? ⟨f, 1, none⟩ = some (.bool sh) := by rw [cell_at HF.out]; rfl
      have e2 : wr.cell? ⟨f, 2, none⟩ = some (.int .i64 (qz : Int)) := by rw [cell_at HF.out]; rfl
      have e3 : wr.cell? ⟨f, 3, none⟩ = some (.slice ao j ac) := by rw [cell_at HF.out]; rfl
      obtain ⟨s', b', hsg, hss, hs1, hs2⟩ := HR.out
      have k1 : wr.cell? ⟨g, 1, none⟩ = some (.bool b') := cell_at hsg 1
      clear hsg HEnd HEp
      by_cases hex : (nExts o4 j).2 = none ∨ j = q16
      · have HFi := Lib.hid fun X hX => HFin.out X hex hX
        have hbj : ¬ (j < q16 ∧ b' = true) := fun h => by
          rcases hex with h1 | h1
          · have := hs2 h1; rw [h.2] at this; cases this
          · omega
        have d0 : wr.cell? ⟨w.heap.size, 0, none⟩ = some (.string ⟨#[]⟩) := by rw [cell_at HX.out]; rfl
        have d1 : wr.cell? ⟨w.heap.size, 1, none⟩ = some (.bool false) := by rw [cell_at HX.out]; rfl
        have d2 : wr.cell? ⟨w.heap.size, 2, none⟩ = some (.int .i64 0) := by rw [cell_at HX.out]; rfl
        have d3 : wr.cell? ⟨w.heap.size, 3, none⟩ = some (.slice none 0 0) := by rw [cell_at HX.out]; rfl
        have g0 := free_at HX.out 0; have g1 := free_at HX.out 1; have g2 := free_at HX.out 2; have g3 := free_at HX.out 3
        clear HF HX HOj HSm HEq HR HOn HAny HS2w HFin hex hs1 hs2
        by_cases hjm : j < q16
        · obtain rfl : b' = false := by
            cases b' with
            | false => rfl
            | true => exact absurd ⟨hjm, rfl⟩ hbj
          have hjz : (j : Int) < (q16 : Int) := by omega
          clear hbj
          go_wp2
          obtain ⟨hYh, fl, ve, h1, h2⟩ := HFi.out _ rfl
          refine bodyPost_ret (v := .agg #[.string T, .bool sh, .int .i64 (qz : Int), .slice ao j ac]) (results_cell_row rfl _ _ w.heap.size 58 _ _ _ rfl hYh Try.underlying58 rfl (by kernel_rfl)) rfl ?_
          exact ⟨fl, ve, by rw [h1], h2⟩
        · obtain rfl : j = q16 := by omega
          have hjz : ¬ (j : Int) < (j : Int) := by omega
          clear hbj k1
          go_wp2
          obtain ⟨hYh, fl, ve, h1, h2⟩ := HFi.out _ rfl
          refine bodyPost_ret (v := .agg #[.string T, .bool sh, .int .i64 (qz : Int), .slice ao j ac]) (results_cell_row rfl _ _ w.heap.size 58 _ _ _ rfl hYh Try.underlying58 rfl (by kernel_rfl)) rfl ?_
          exact ⟨fl, ve, by rw [h1], h2⟩
      · have hjm : j < q16 := by omega
        have hns : (nExts o4 j).2 ≠ none := fun h => hex (.inl h)
        obtain rfl : b' = true := by
          cases hst : (nExts o4 j).2 with
          | none => exact absurd hst hns
          | some lj => exact (hs1 lj hst).1
        have hEE := HEq.out hns
        have hjz : (j : Int) < (q16 : Int) := by omega
        have HN : Hid (nExts o4 (j + 1) = ((nExts o4 j).1 ++ [(nExt1 (nExts o4 j).2).1], (nExt1 (nExts o4 j).2).2)) := rfl
        have HEE := Lib.hid hEE
        have HNS := Lib.hid hns
        generalize nExts o4 j = pj at *
        obtain ⟨E0, oo⟩ := pj
        dsimp only at HEE HNS HR HN
        have C1 := Lib.hid fun W h => HAny.out oo W h
        have C2 := Lib.hid fun W h => HAny.out (nNum 4096 oo).2 W h
        have HE1 : Hid (nExt1 oo = ((((nNum 4096 oo).1 : Int), ((nNum 4096 (nNum 4096 oo).2).1 : Int)), (nNum 4096 (nNum 4096 oo).2).2)) := rfl
        have hst2 : (nNum 4096 oo).2 = none → (nNum 4096 (nNum 4096 oo).2).2 = none := fun h => by rw [h]; rfl
        have HST := Lib.hid hst2
        generalize nNum 4096 (nNum 4096 oo).2 = p2 at *
        generalize nNum 4096 oo = p1 at *
        obtain ⟨a1, o5⟩ := p1
        obtain ⟨a2, o6⟩ := p2
        dsimp only at HE1 HST C1 C2
        have HNF : Hid ((Value.slice ao j ac).ownBlock ≠ some f) := own_not HOj.out HF.out (by decide)
        have HNX : Hid ((Value.slice ao j ac).ownBlock ≠ some w.heap.size) := own_not HOj.out HX.out (by decide)
        have hgw2 : ∀ k, w.heap.size ≤ k → ¬ k = g := fun k hk e => by omega
        clear hEE hns hst2 hs1 hs2 hex HFin HEq e0 e1 e2 e3
        go_wp2_with fail
        refine (C1.out _ HR.out).mono ?_
        rintro e w7 ⟨u1, rfl, hu1, hu1e, HR7, HO7⟩
        have HU1 := Lib.hid hu1e
        clear hu1e C1
        go_wp2_with fail
        refine (C2.out _ HR7.out).mono ?_
        rintro e w8 ⟨u2, rfl, hu2, hu2e, HR8, HO8⟩
        have HU2 := Lib.hid hu2e
        have HOc : Hid (Only (fun k => k = g) wr w8) := HO7.out.trans HO8.out (fun _ _ h => h)
        have hsz := HOc.out.size
        have hf8 := (HOc.out.block f hfl (Ne.symm hgf)).trans HF.out
        have hx8 := (HOc.out.block w.heap.size hrl (Ne.symm hgw)).trans HX.out
        have HF8 := Lib.hid hf8; have HX8 := Lib.hid hx8
        have z3 : w8.cell? ⟨f, 3, none⟩ = some (.slice ao j ac) := by rw [cell_at hf8]; rfl
        have HOw : Hid (World.ownsRow (w8.alloc (.cells #[.int .i64 (u1 : Int), .int .i64 (u2 : Int)] 52)) w.heap.size 52 2 (.slice ao j ac) j (flatE E)) := (own_only HOj.out HOc.out hgw2).alloc _
        clear hu2e C2 HO7 HO8 HR7 hf8 hx8 HR
        go_wp2_with (at_builtin; refine wpList_append_where _ rfl (.tmp 57) (.tmp 61) 48 rfl w.heap.size 52 i0 (.agg #[.int .i64 0, .int .i64 0]) 2 16 Try.underlying48 hi hz0 hz1 HZ2.out rfl (by omega) _ j (flatE E) rfl HOw.out ⟨w8.heap.size, 0, none⟩ 1 1 [.int .i64 (u1 : Int), .int .i64 (u2 : Int)] rfl rfl (two_cellsE (heap_alloc_new _ _)) (two_oneE _ _) ?c2 ?c3 ?c4 ?_)
        case c2 => unfold maxLen; omega
        case c3 => omega
        case c4 => first | omega | (simp; omega)
        intro v1 w9 hown hgrow hwh
        obtain ⟨v1o, v1c, hv1⟩ := own_shapeE hown
        subst hv1
        have HV9 := Lib.hid hown
        have HF9 : Hid (w9.heap[f]? = some (.cells #[.string T, .bool sh, .int .i64 (qz : Int), .slice ao j ac] 58 (0, 0))) := (grown_block hgrow (by simp; omega) HNF.out).trans ((Below.heap_alloc _ _ _ (by omega)).trans HF8.out)
        have HX9 : Hid (w9.heap[w.heap.size]? = some (.cells #[.string ⟨#[]⟩, .bool false, .int .i64 0, .slice none 0 0] 58 (0, 0))) := (grown_block hgrow (by simp; omega) HNX.out).trans ((Below.heap_alloc _ _ _ (by omega)).trans HX8.out)
        have z9 := cell_at HF9.out 3
        have f9 := free_at HF9.out 3
        have HR9 : Hid (RrOK w9 g o6) := by
          obtain ⟨s9, b9, h9, rest⟩ := HR8.out.below ((Below.refl _ _).alloc (Nat.le_refl _) (.cells #[.int .i64 (u1 : Int), .int .i64 (u2 : Int)] 52))
          exact ⟨s9, b9, (grown_block hgrow (by simp; omega) (fun e => by have := (HOw.out.lt g e).1; omega)).trans h9, rest⟩
        have HO9 : Hid (Only (fun k => k = g) w w9) := only_grown ((HOn.out.trans HOc.out (fun _ _ h => h)).alloc _) hgrow (fun q hq => (HOw.out.lt q hq).1)
        clear hown hgrow hwh HOw HR8 HF8 HX8 HF HX HOj HOn HOc z3 HNF HNX
        go_wp2_with fail
        obtain ⟨hf10, hr10, ho10, hx10⟩ := HS2w.out w9 3 (.slice v1o (j + 1) v1c) _ _ HF9.out HR9.out HO9.out HX9.out
        have HF10 : Hid ((w9.setCell ⟨f, 3, none⟩ (.slice v1o (j + 1) v1c)).heap[f]? = some (.cells #[.string T, .bool sh, .int .i64 (qz : Int), .slice v1o (j + 1) v1c] 58 (0, 0))) := hf10
        have HR10 := Lib.hid hr10; have HO10 := Lib.hid ho10; have HX10 := Lib.hid hx10
        have HV10 : Hid (OwnE w.heap.size (w9.setCell ⟨f, 3, none⟩ (.slice v1o (j + 1) v1c)) (.slice v1o (j + 1) v1c) (E ++ [((u1 : Int), (u2 : Int))])) := by
          have hl : (E ++ [((u1 : Int), (u2 : Int))]).length = j + 1 := by rw [List.length_append, hEl]; rfl
          show World.ownsRow _ _ _ _ _ _ _
          rw [hl, flatE_append]
          exact ownsRow_setCell_other HV9.out (own_not HV9.out HF9.out (by decide)) _
        have HSm10 : Hid (∀ x ∈ E ++ [((u1 : Int), (u2 : Int))], 0 ≤ x.1 ∧ x.1 ≤ 4096 ∧ 0 ≤ x.2 ∧ x.2 ≤ 4096) := fun x hx => by
          rcases List.mem_append.1 hx with hx | hx
          · exact HSm.out x hx
          · rw [List.mem_singleton.1 hx]; dsimp only; omega
        have HEq10 : Hid ((nExts o4 (j + 1)).2 ≠ none → E ++ [((u1 : Int), (u2 : Int))] = (nExts o4 (j + 1)).1) := fun h => by
          rw [HN.out, HE1.out] at h
          rw [HN.out, HE1.out]
          dsimp only at h ⊢
          have h5 : o5 ≠ none := fun h5 => h (HST.out h5)
          rw [HEE.out, HU1.out HNS.out, HU2.out h5]
        have HRs : Hid (RrOK (w9.setCell ⟨f, 3, none⟩ (.slice v1o (j + 1) v1c)) g (nExts o4 (j + 1)).2) := by show RrOK _ _ _; rw [HN.out, HE1.out]; exact HR10.out
        have hEl2 : (E ++ [((u1 : Int), (u2 : Int))]).length = j + 1 := by rw [List.length_append, hEl]; rfl
        clear hf10 hr10 ho10 hx10 HF9 HX9 HR9 HO9 HV9 z9 f9 HR10 HSm HEE HNS HU1 HU2 HN HE1 HST HAny HS2w
        go_roundw
        case rel => exact ⟨j + 1, _, _, by omega, by go_num, hEl2, HF10, HX10, HV10, HSm10, HEq10, HRs, HO10⟩
        case measure => simp [intOf]; omega
end Go.Proofs.Ytfmnbabkdpiboaa
