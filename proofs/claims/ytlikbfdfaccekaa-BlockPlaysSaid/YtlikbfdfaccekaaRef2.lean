/- What the document's device's Read and Write answer: the same as in plain lists. -/
import Derived.Test.YtlikbfdfaccekaaRef1
namespace Go.Proofs.Ytlikbfdfaccekaa
open Go.RowKit
section
variable {S : Nat → Prop} {w w' : World} {r q lcap : Nat} {pv : Value} {D : DevS}

/-- Block r is the document's device that says D, wherever its rows lie. -/
def RStands (S : Nat → Prop) (w : World) (r : Nat) (D : DevS) : Prop := ∃ q lcap pv, Ref S w r q lcap pv D
def RLeaves (S : Nat → Prop) (w w' : World) (r : Nat) (D' : DevS) : Prop :=
  ∃ S' : Nat → Prop, (∀ k, S' k → S k ∨ w.heap.size ≤ k) ∧ RStands S' w' r D' ∧ Only S w w'
theorem RLeaves.mk {D : DevS} (d : RStands S w' r D) (h : Only S w w') : RLeaves S w w' r D := ⟨S, fun _ => .inl, d, h⟩
theorem RStands.kept {T : Nat → Prop} (d : RStands S w r D) (h : Only T w w') (hT : ∀ k, S k → ¬ T k) : RStands S w' r D := by
  obtain ⟨q, lcap, pv, d⟩ := d; exact ⟨q, lcap, pv, d.kept h hT⟩
theorem RStands.below (d : RStands S w r D) (h : Below w.heap.size w w') : RStands S w' r D :=
  d.kept (Only.of_below (fun _ => False) h (Nat.le_refl _)) (fun _ _ f => f)
theorem RStands.ok (d : RStands S w r D) : D.Ok := by obtain ⟨q, lcap, pv, d⟩ := d; exact d.ok
theorem RStands.lt (d : RStands S w r D) : ∀ k, S k → k < w.heap.size := by obtain ⟨q, lcap, pv, d⟩ := d; exact d.lt

set_option maxHeartbeats 1000000 in
theorem rread_no (i : Int) (hck : D.ck i ≠ 0) (d : Ref S w r q lcap pv D) :
    Calls Try.prog 33 #[.pointer (some ⟨r, 0, none⟩), .int .i64 i] w fun e w' => e = .returned (.tuple #[.string ByteArray.empty, .int .i64 (D.ck i)]) ∧ w = w' := by
  have c0 := d.c0; have c3 := d.c3; have hn := d.ok.few
  clear d
  by_cases hde : D.dead = true
  · have e : D.ck i = 4 := by simp [DevS.ck, hde]
    rw [e]
    rw [hde] at c3
    clear hck e hde
    generalize D.disk.length = n at *
    go_enter Try.func33, Try.ntmps33
    go_wp2
    go_ret2
    exact ⟨rfl, rfl⟩
  · have hdf : D.dead = false := by simpa using hde
    have h : i < 0 ∨ (0 ≤ i ∧ (D.disk.length : Int) ≤ i) := by
      unfold DevS.ck at hck; rw [hdf] at hck; simp at hck; omega
    have e : D.ck i = 2 := by unfold DevS.ck; rw [hdf, if_neg (by simp), if_pos (by omega)]
    rw [e]
    rw [hdf] at c3
    clear hck e hde hdf
    generalize D.disk.length = n at *
    rcases h with h | ⟨h, h'⟩
    all_goals
      go_enter Try.func33, Try.ntmps33
      go_wp2
      go_ret2
      exact ⟨rfl, rfl⟩

set_option maxHeartbeats 2000000 in
theorem rread_yes (j n : Nat) (hn : D.pend.length = n) (hb : n ≤ 1000000) (hde : D.dead = false) (hj : j < D.disk.length) (d : Ref S w r q lcap pv D) :
    Calls Try.prog 33 #[.pointer (some ⟨r, 0, none⟩), .int .i64 j] w fun e w' => e = .returned (.tuple #[.string (D.rdB j), .int .i64 0]) ∧ w = w' := by
  have c0 := d.c0; have c1 := d.c1; have c3 := d.c3; have cq := d.cq j hj; have hfew := d.ok.few
  rw [hde] at c3
  obtain ⟨ao, cap, hpv⟩ := own_shape d.hr
  rw [hn] at hpv
  have HD := Lib.hid d; have HN := Lib.hid hn
  have HZ := Lib.hid (lastK_zero D j)
  have HAll : Hid (lastK D j n = D.rdB j) := by show _ = _; rw [← hn]; exact lastK_all D j
  clear d hn hde
  subst hpv
  generalize D.disk.length = nd at *
  rw [← HZ.out] at cq
  go_enter Try.func33, Try.ntmps33
  go_wp2_with fail
  go_loop [6, 7] (fun sv iv => ∃ k : Nat, k ≤ n ∧ iv = .int .i64 k ∧ sv = .string (lastK D j k)) (fun _ iv => n - (intOf iv).toNat)
  case atStart => exact ⟨0, Nat.zero_le _, rfl, rfl⟩
  case round =>
    obtain ⟨k, hk, rfl, rfl⟩ := hrel
    by_cases hlt : k < n
    · have hkp : k < D.pend.length := by rw [HN.out]; exact hlt
      obtain ⟨b, e⟩ : ∃ b, ao = some ⟨b, 0, none⟩ := by
        rcases HD.out.hr.2 with ⟨h1, h2⟩ | ⟨g, cap', cur, h1, _⟩
        · rw [HN.out] at h2; omega
        · simp at h1; exact ⟨g, h1.1⟩
      subst e
      obtain ⟨d0, d1⟩ := HD.out.cr k hkp
      have HS := Lib.hid (lastK_succ D j k hkp)
      generalize D.pend[k] = x at *
      obtain ⟨xb, xs⟩ := x
      simp only at d0 d1 HS
      clear hkp
      by_cases e : xb = j
      · have e' : ((xb : Int) == (j : Int)) = true := by simp [e]
        have HE : Hid (lastK D j (k + 1) = xs) := by show _ = _; rw [HS.out, if_pos e]
        clear e HS
        generalize lastK D j k = T at *
        go_wp2
        go_round
        case rel => exact ⟨k + 1, by omega, by go_num, by rw [HE.out]⟩
        case measure => simp [intOf]; omega
      · have e' : ((xb : Int) == (j : Int)) = false := by simp; omega
        have HE : Hid (lastK D j (k + 1) = lastK D j k) := by show _ = _; rw [HS.out, if_neg e]
        clear e HS
        go_wp2
        go_round
        case rel => exact ⟨k + 1, by omega, by go_num, by rw [HE.out]⟩
        case measure => simp [intOf]; omega
    · have hkn : k = n := by omega
      subst hkn
      go_wp2
      go_ret2
      exact ⟨by rw [← HAll.out]; rfl, rfl⟩

theorem rread_any (i : Int) (hl : D.pend.length ≤ 1000000) (d : RStands S w r D) :
    Calls Try.prog 33 #[.pointer (some ⟨r, 0, none⟩), .int .i64 i] w fun e w' => e = .returned (.tuple #[.string (D.rd i).1, .int .i64 (D.rd i).2]) ∧ w = w' := by
  obtain ⟨q, lcap, pv, d⟩ := d
  by_cases h1 : D.ck i = 0
  · have hk : D.dead = false ∧ 0 ≤ i ∧ i < D.disk.length := by
      unfold DevS.ck at h1
      split at h1
      · omega
      · split at h1
        · omega
        · exact ⟨by simp_all, by omega, by omega⟩
    obtain ⟨j, rfl⟩ := Int.eq_ofNat_of_zero_le hk.2.1
    have e : D.rd j = (D.rdB j, 0) := by simp [DevS.rd, h1]
    rw [e]
    exact rread_yes j _ rfl hl hk.1 (by omega) d
  · have e : D.rd i = (ByteArray.empty, D.ck i) := by simp [DevS.rd, h1]
    rw [e]
    exact rread_no i h1 d

end
end Go.Proofs.Ytlikbfdfaccekaa
