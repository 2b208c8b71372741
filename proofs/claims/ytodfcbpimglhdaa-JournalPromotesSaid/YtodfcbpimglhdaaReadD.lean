/- What Read answers for every device: an error, or the data of the last pending write of the block, or what lies on it; nothing that was there is changed. -/
import Derived.Test.YtodfcbpimglhdaaCalls3
namespace Go.Proofs.Ytodfcbpimglhdaa
open Go.RowKit

/-- What is read of block j. -/
def DevS.rdB (D : DevS) (j : Nat) : ByteArray := match D.pend.reverse.find? (fun x => x.1 == j) with | some x => x.2 | none => D.disk.getD j ByteArray.empty
/-- A read: the data, the error. -/
def DevS.rd (D : DevS) (i : Int) : ByteArray × Int := if D.ck i ≠ 0 then (ByteArray.empty, D.ck i) else (D.rdB i.toNat, 0)

theorem find_rev_hit (l : List (Nat × ByteArray)) (j k : Nat) (hk : k < l.length) (hno : ∀ i (h : i < k), (l[l.length - 1 - i]'(by omega)).1 ≠ j) (he : (l[l.length - 1 - k]'(by omega)).1 = j) :
    l.reverse.find? (fun x => x.1 == j) = some (l[l.length - 1 - k]'(by omega)) := by
  rw [List.find?_eq_some_iff_getElem]
  refine ⟨by simpa using he, k, by simpa using hk, ?_, ?_⟩
  · rw [List.getElem_reverse]
  · intro i hi
    rw [List.getElem_reverse]
    have := hno i hi
    simpa using this
theorem find_rev_miss (l : List (Nat × ByteArray)) (j : Nat) (hno : ∀ i (h : i < l.length), (l[l.length - 1 - i]'(by omega)).1 ≠ j) : l.reverse.find? (fun x => x.1 == j) = none := by
  rw [List.find?_eq_none]
  intro x hx
  rw [List.mem_reverse, List.mem_iff_getElem] at hx
  obtain ⟨i, hi, rfl⟩ := hx
  have := hno (l.length - 1 - i) (by omega)
  have e : l.length - 1 - (l.length - 1 - i) = i := by omega
  simp only [e] at this
  simpa using this

section
variable {S : Nat → Prop} {w : World} {p q : Nat} {pv : Value} {D : DevS}

set_option maxRecDepth 100000 in
set_option maxHeartbeats 400000 in
theorem read_no (i : Int) (r : Int) (hr : (r != 0) = true) (hck : D.ck i = r) (d : Dev S w p q pv D) :
    Calls Try.prog 37 #[.pointer (some ⟨p, 0, none⟩), .int .i64 i] w fun e w' => e = .returned (.tuple #[.string ByteArray.empty, .int .i64 r]) ∧ w = w' := by
  have cK := check_any i d; rw [hck] at cK
  have HK := Lib.hid cK; clear cK
  clear hck d
  go_enter Try.func37, Try.ntmps37
  go_wp2_with fail
  refine HK.out.mono ?_
  rintro e w' ⟨rfl, rfl⟩
  go_wp2
  go_ret2
  exact ⟨rfl, rfl⟩

set_option maxRecDepth 100000 in
set_option maxHeartbeats 1000000 in
theorem read_some (j n cap r : Nat) (hn : D.pend.length = n) (hb : n ≤ 1000000) (hck : D.ck j = 0) (hj : j < D.disk.length) (d : Dev S w p q (.slice (some ⟨r, 0, none⟩) n cap) D) :
    Calls Try.prog 37 #[.pointer (some ⟨p, 0, none⟩), .int .i64 j] w fun e w' => e = .returned (.tuple #[.string (D.rdB j), .int .i64 0]) ∧ Below w.heap.size w w' := by
  have cK := check_any j d; rw [hck] at cK
  have HK := Lib.hid cK; clear cK hck
  have c1 := d.c1; have c0 := d.c0
  have cq := d.cq j hj
  have hnd := d.ok.few
  have HN := Lib.hid hn; clear hn
  have HD := Lib.hid d; clear d
  generalize D.disk.length = nd at *
  go_enter Try.func37, Try.ntmps37
  go_wp2_with fail
  refine HK.out.mono ?_
  rintro e w' ⟨rfl, rfl⟩
  go_wp2_with fail
  go_loopw [20] (fun i wr => ∃ k : Nat, k ≤ n ∧ i = .int .i64 k ∧ Hid (∀ i (h : i < k) (h' : D.pend.length - 1 - i < D.pend.length), (D.pend[D.pend.length - 1 - i]).1 ≠ j) ∧ Hid (Below w.heap.size w wr)) (fun i _ => n - (intOf i).toNat)
  case atStart => exact ⟨0, Nat.zero_le _, rfl, fun i h => absurd h (Nat.not_lt_zero _), Below.refl _ _⟩
  case round =>
    obtain ⟨k, hk, rfl, HNo, HB⟩ := hrel
    have lp := HD.out.lt p HD.out.sp
    have lq := HD.out.lt q HD.out.sq
    have HC1 := Lib.hid c1; clear c1
    have HC0 := Lib.hid c0; clear c0
    have HCQ := Lib.hid cq; clear cq
    have c1 := (HB.out.cell (p := ⟨p, 1, none⟩) lp).trans HC1.out
    by_cases hlt : k < n
    · obtain ⟨m, b, data, hix, hmn, d0, d1, HX⟩ : ∃ (m b : Nat) (data : ByteArray), (n : Int) - 1 - (k : Int) = (m : Int) ∧ m < n ∧ wr.cell? ⟨r, m * 2, none⟩ = some (.int .i64 b) ∧ wr.cell? ⟨r, m * 2 + 1, none⟩ = some (.string data) ∧ Hid (∀ h : D.pend.length - 1 - k < D.pend.length, D.pend[D.pend.length - 1 - k]'h = (b, data)) := by
        have hmp : n - 1 - k < D.pend.length := by rw [HN.out]; omega
        obtain ⟨d0, d1⟩ := HD.out.cr (n - 1 - k) hmp
        have lr := HD.out.lt r (HD.out.sr r rfl)
        refine ⟨n - 1 - k, D.pend[n - 1 - k].1, D.pend[n - 1 - k].2, by omega, by omega, (HB.out.cell (p := ⟨r, _, none⟩) lr).trans d0, (HB.out.cell (p := ⟨r, _, none⟩) lr).trans d1, ?_⟩
        intro h
        have e : D.pend.length - 1 - k = n - 1 - k := by rw [HN.out]
        simp only [e]
      have lpr : p < wr.heap.size := Nat.lt_of_lt_of_le lp HB.out.size
      have lrr : r < wr.heap.size := Nat.lt_of_lt_of_le (HD.out.lt r (HD.out.sr r rfl)) HB.out.size
      have w1 : IntKind.i64.wrap ((n : Int) - 1) = (n : Int) - 1 := IntWalk.i64_in _ (by omega)
      have w2 : IntKind.i64.wrap (m : Int) = (m : Int) := IntWalk.i64_in _ (by omega)
      have hm0 : 0 ≤ (m : Int) := by omega
      have hmn' : (m : Int) < (n : Int) := by omega
      have hmt : ((m : Int)).toNat = m := by omega
      have hk' : k < D.pend.length := by rw [HN.out]; exact hlt
      by_cases hbj : b = j
      · have hbj' : ((b : Int) == (j : Int)) = true := by simp [hbj]
        have HE : Hid (D.rdB j = data) := by
          show D.rdB j = data
          unfold DevS.rdB
          rw [find_rev_hit D.pend j k hk' (fun i h => HNo.out i h _) (by rw [HX.out]; exact hbj), HX.out]
        have HBJ := Lib.hid hbj; clear hbj
        go_wp2
        go_region
        go_wp2
        go_ret2
        exact ⟨by rw [HE.out]; rfl, (HB.out.alloc HB.out.size _).drew⟩
      · have hbj' : ((b : Int) == (j : Int)) = false := by simp; omega
        go_wp2
        go_region
        go_wp2
        go_roundw
        case rel =>
          refine ⟨k + 1, by omega, by go_num, fun i hi h' => ?_, (HB.out.alloc HB.out.size _).drew⟩
          by_cases hik : i = k
          · subst hik; rw [HX.out]; exact hbj
          · exact HNo.out i (by omega) h'
        case measure => simp [intOf]; omega
    · have hkn : k = n := by omega
      have c0 := (HB.out.cell (p := ⟨p, 0, none⟩) lp).trans HC0.out
      have cq := (HB.out.cell (p := ⟨q, j, none⟩) lq).trans HCQ.out
      have HE : Hid (D.rdB j = D.disk.getD j ByteArray.empty) := by
        show D.rdB j = _
        unfold DevS.rdB
        rw [find_rev_miss D.pend j (fun i h => HNo.out i (by rw [hkn, ← HN.out]; exact h) _)]
      have HK2 := Lib.hid hkn; clear hkn
      generalize D.disk.getD j ByteArray.empty = old at *
      go_wp2
      go_ret2
      exact ⟨by rw [HE.out]; rfl, HB.out⟩
set_option maxRecDepth 100000 in
set_option maxHeartbeats 1000000 in
theorem read_none (j : Nat) (hn : D.pend = []) (hck : D.ck j = 0) (hj : j < D.disk.length) (d : Dev S w p q (.slice none 0 0) D) :
    Calls Try.prog 37 #[.pointer (some ⟨p, 0, none⟩), .int .i64 j] w fun e w' => e = .returned (.tuple #[.string (D.rdB j), .int .i64 0]) ∧ w = w' := by
  have cK := check_any j d; rw [hck] at cK
  have HK := Lib.hid cK; clear cK hck
  have c1 := d.c1; have c0 := d.c0
  have cq := d.cq j hj
  have hnd := d.ok.few
  have HE : Hid (D.rdB j = D.disk.getD j ByteArray.empty) := by show D.rdB j = _; unfold DevS.rdB; rw [hn]; rfl
  clear d hn
  generalize D.disk.getD j ByteArray.empty = old at *
  generalize D.disk.length = nd at *
  go_enter Try.func37, Try.ntmps37
  go_wp2_with fail
  refine HK.out.mono ?_
  rintro e w' ⟨rfl, rfl⟩
  go_wp2_with fail
  go_loopw [20] (fun i wr => i = .int .i64 0 ∧ wr = w) (fun _ _ => 0)
  case atStart => exact ⟨rfl, rfl⟩
  case round =>
    obtain ⟨rfl, rfl⟩ := hrel
    go_wp2
    go_ret2
    exact ⟨by rw [HE.out]; rfl, rfl⟩

theorem read_any (i : Int) (hl : D.pend.length ≤ 1000000) (d : Stands S w p D) :
    Calls Try.prog 37 #[.pointer (some ⟨p, 0, none⟩), .int .i64 i] w fun e w' => e = .returned (.tuple #[.string (D.rd i).1, .int .i64 (D.rd i).2]) ∧ Below w.heap.size w w' := by
  obtain ⟨q, pv, d⟩ := d
  by_cases h1 : D.ck i = 0
  · have hk : 0 ≤ i ∧ i < D.disk.length := by
      unfold DevS.ck at h1
      split at h1
      · omega
      · split at h1 <;> omega
    obtain ⟨j, rfl⟩ := Int.eq_ofNat_of_zero_le hk.1
    have e : D.rd j = (D.rdB j, 0) := by simp [DevS.rd, h1]
    rw [e]
    rcases d.hr.2 with ⟨rfl, h0⟩ | ⟨r, cap, cur, rfl, _⟩
    · exact (read_none j (List.eq_nil_of_length_eq_zero h0) h1 (by omega) d).mono fun e w' ⟨he, hw⟩ => by subst hw; exact ⟨he, Below.refl _ _⟩
    · exact read_some j _ cap r rfl hl h1 (by omega) d
  · have e : D.rd i = (ByteArray.empty, D.ck i) := by simp [DevS.rd, h1]
    rw [e]
    exact (read_no i _ (by simpa using h1) rfl d).mono fun e w' ⟨he, hw⟩ => by subst hw; exact ⟨he, Below.refl _ _⟩

end
end Go.Proofs.Ytodfcbpimglhdaa
