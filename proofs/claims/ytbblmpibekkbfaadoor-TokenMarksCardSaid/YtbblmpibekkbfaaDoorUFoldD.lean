/- The document's Folded. -/
import Derived.Test.YtbblmpibekkbfaaDoorUKinds
import Derived.Laws.AppendOwn
import Derived.Lib.AppendStr
namespace Go.Proofs.YtbblmpibekkbfaaDoor
open Go.RowKit

theorem own_belowU {B : Nat} {e : TypeId} {k : Nat} {v : Value} {n : Nat} {xs : List Value} {w w' : World} (h : w.ownsRow B e k v n xs) (hb : Below w.heap.size w w') : w'.ownsRow B e k v n xs := by
  refine ⟨h.1, ?_⟩
  rcases h.2 with hn | ⟨g, cap, cur, rfl, hbg, hg, hnc, hcm, hcs, htk⟩
  · exact .inl hn
  · exact .inr ⟨g, cap, cur, rfl, hbg, by rw [hb.block g (Array.getElem?_eq_some_iff.1 hg).1]; exact hg, hnc, hcm, hcs, htk⟩
theorem infoU : (Tryd.prog.info? 5).map (fun i => (i.zero, i.size, i.bytes)) = some (some (.int .u8 0), 1, 1) := by kernel_rfl
theorem foldI_all : ∀ r : Fin 1536, foldI (r.1 : Int) = ((foldR r.1 : Nat) : Int) := by decide +kernel
theorem foldI_nat (r : Nat) : foldI (r : Int) = ((foldR r : Nat) : Int) := by
  by_cases h : r < 1536
  · exact foldI_all ⟨r, h⟩
  · rw [fold_out r (by omega)]
    unfold foldI
    rw [if_neg (by omega), if_neg (by omega), if_neg (by omega), if_neg (by omega), if_neg (by omega), if_neg (by omega)]
def cellsU (l : List UInt8) : List Value := l.map fun b => Value.int .u8 b.toNat
theorem cellsU_len (l : List UInt8) : (cellsU l).length = l.length := by simp [cellsU]
theorem cellsU_app (l m : List UInt8) : cellsU (l ++ m) = cellsU l ++ cellsU m := List.map_append ..
/-- A row of bytes of one's own. -/
def URow (B : Nat) (w : World) (v : Value) (l : List UInt8) : Prop := w.ownsRow B 5 1 v l.length (cellsU l)
theorem URow.text {B : Nat} {w : World} {v : Value} {l : List UInt8} (h : URow B w v l) : (convert 43 9 v).run Tryd.prog w = .ok (.string (utxt l)) w := by
  rcases h.2 with ⟨rfl, h0⟩ | ⟨g, cap, cur, rfl, _⟩
  · obtain rfl : l = [] := List.eq_nil_of_length_eq_zero h0
    exact run_convert_bytes_nil w 43 5 Tryd.underlying43 Tryd.underlying5 0 0 9 Tryd.underlying9
  · rw [← ustr_of]
    refine run_convert_bytes_arg w 43 5 Tryd.underlying43 Tryd.underlying5 g 0 l.length cap _ (by simp) ?_ 9 Tryd.underlying9
    intro i hi
    rw [Nat.zero_add, World.ownsRow.cellAt h i (by omega)]
    simp [cellsU, List.getD, hi]
theorem URow.below {B : Nat} {w w' : World} {v : Value} {l : List UInt8} (h : URow B w v l) (hb : Below w.heap.size w w') : URow B w' v l := own_belowU h hb
theorem folded_step {L : List UInt8} (h : L ≠ []) : foldedL L = (if (runeL L).1 < 0 then L.take 1 else byts (foldR (runeL L).1.toNat)) ++ foldedL (L.drop (runeL L).2) := by
  have hf : foldedL L = (foldP ((runeL L).1, L.take (runeL L).2)).2 ++ foldedL (L.drop (runeL L).2) := by
    unfold foldedL; rw [cut_cons h]; rfl
  rw [hf]
  congr 1
  unfold foldP
  by_cases h0 : (runeL L).1 < 0
  · rw [if_pos h0, if_pos h0, (rune_lt h0).2.2 h]
  · rw [if_neg h0, if_neg h0]
theorem folded_nil : foldedL [] = [] := rfl

section
variable {P : Program} {w : World}
theorem wpList_append_strU {ops : Array Oper} {rest : List Oper} {o : Oper} {a : Act} {Q : Exit → Act → World → Prop} (hgd : o.guard = none) (sl x : Operand) (t u : TypeId)
    (ho : o.op = .call { callee := .builtin .append, args := #[sl, x], argTypes := #[t, u] })
    (base : Nat) (e : TypeId) (i : TypeInfo) (ht : P.underlying t = some (.slice e)) (hu : P.underlying u = some .string) (hi : P.info? e = some i) (hz : i.zero = some (.int .u8 0))
    (hsize : i.size = 1) (hby : i.bytes = 1)
    (v : Value) (n : Nat) (xs : List Value) (hs : a.eval sl = v) (hown : w.ownsRow base e 1 v n xs) (s : ByteArray) (hx : a.eval x = .string s)
    (h63 : n + s.size ≤ maxLen) (hbytes : n + s.size ≤ 140737488355328) (hbase : base ≤ w.heap.size)
    (h : ∀ v' w', w'.ownsRow base e 1 v' (n + s.size) (xs ++ Lib.strCells s) → w.grownBy w' v.ownBlock → wpList P ops Q rest (a.put o.dst v') w') : wpList P ops Q (o :: rest) a w := by
  refine wpList_plain hgd fun K hK => ?_
  obtain ⟨v', w', hr, h2, h3, _⟩ := Lib.run_append_own_string (P := P) w base t u o.type e i ht hu hi hz hsize hby v n xs hown s h63 hbytes hbase
  unfold Oper.wp execOp
  simp only [ho, resolve, invoke, builtin, Sem.run_bind, Sem.run_pure, Result.andThen_ok, List.map_toArray, List.map_cons, List.map_nil, hs, hx, hr]
  exact hK _ _ (h v' w' h2 h3)
end

set_option maxRecDepth 100000 in
set_option maxHeartbeats 4000000 in
theorem xfolded_any (s : ByteArray) (w : World) (hs : s.size ≤ 100000) : Calls Tryd.prog 22 #[.string s] w fun e w' => e = .returned (.string (utxt (foldedL s.data.toList))) ∧ Below w.heap.size w w' := by
  obtain ⟨i0, hi, hz0, hz1, hz2⟩ := info_parts infoU
  have HZ2 := Lib.hid hz2; clear hz2
  have HR : Hid (∀ (t : ByteArray) W, t.size ≤ 100000 → Calls Tryd.prog 34 #[.string t] W fun e w' => e = .returned (.tuple #[.int .i64 (runeL t.data.toList).1, .int .i64 ((runeL t.data.toList).2 : Nat)]) ∧ Below W.heap.size W w') := fun t W h => xrune_any t W h
  obtain ⟨F, hF⟩ : ∃ F, foldedL s.data.toList = F := ⟨_, rfl⟩
  have HF := Lib.hid hF
  rw [hF]
  clear hF
  go_enter Tryd.func22, Tryd.ntmps22
  go_wp2_with fail
  go_loopw [0, 3] (fun t bv wr => ∃ (T : ByteArray) (D : List UInt8), t = .string T ∧ D.length + 4 * T.size ≤ 4 * s.size ∧ Hid (D ++ foldedL T.data.toList = F) ∧ Hid (URow w.heap.size wr bv D) ∧ Hid (Below w.heap.size w wr)) (fun t _ _ => strLen t)
  case atStart => exact ⟨s, [], rfl, by simp, by rw [List.nil_append]; exact HF.out, World.ownsRow_nil _ _ _ _, Below.refl _ _⟩
  case round =>
    obtain ⟨T, D, rfl, hT, HD, HO, HB⟩ := hrel
    have hlen := data_len T
    by_cases h0 : T.size = 0
    · have hnil : T.data.toList = [] := List.length_eq_zero_iff.1 (by omega)
      have HE : Hid (utxt D = utxt F) := by
        show _ = _
        rw [← HD.out, hnil, folded_nil, List.append_nil]
      have hc := HO.out.text
      go_wp2
      go_ret
      exact ⟨congrArg (fun x => Ending.returned (.string x)) HE.out, HB.out⟩
    · have hne : T.data.toList ≠ [] := fun e => by rw [e] at hlen; exact h0 hlen.symm
      have hz0' : 0 < T.size := by omega
      have hp := rune_pos hne
      have HSt := Lib.hid (folded_step hne)
      have CR := Lib.hid (HR.out T wr (by omega))
      have HX := Lib.hid (utxt_drop T (runeL T.data.toList).2)
      have hneg : (runeL T.data.toList).1 < 0 ∨ 0 ≤ (runeL T.data.toList).1 := by omega
      have HGe : Hid (0 ≤ (runeL T.data.toList).1 → ∃ k : Nat, (runeL T.data.toList).1 = k ∧ isRn k = true) := fun h => by
        obtain ⟨k, e1, e2, _⟩ := rune_ge h; exact ⟨k, e1, e2⟩
      have HLt : Hid ((runeL T.data.toList).1 < 0 → (runeL T.data.toList).2 = 1) := fun h => (rune_lt h).2.2 hne
      have HB0 : Hid (T.data.toList.take 1 = [T[0]'hz0']) := by
        show _ = _
        rw [byte_at T 0 hz0']
        cases hq : T.data.toList with
        | nil => exact absurd hq hne
        | cons x y => rfl
      rw [hlen] at hp
      generalize runeL T.data.toList = R at *
      obtain ⟨r, n⟩ := R
      dsimp only at *
      have hsz : (T.extract n T.size).size = T.size - n := by rw [HX.out, utxt_size, List.length_drop, hlen]
      obtain ⟨X, hX⟩ : ∃ X, T.extract n T.size = X := ⟨_, rfl⟩
      have HXd : Hid (X.data.toList = T.data.toList.drop n) := by
        show _ = _
        rw [← hX, HX.out, utxt_data]
      rw [hX] at hsz
      have i1 : 0 ≤ (n : Int) := by omega
      have i2 : (n : Int) ≤ (T.size : Int) := by omega
      clear HX HR
      rcases hneg with hneg | hneg
      · have hn1 := HLt.out hneg
        have HD2 : Hid ((D ++ [T[0]'hz0']) ++ foldedL X.data.toList = F) := by
          show _ = _
          rw [HXd.out, ← HD.out, HSt.out, if_pos hneg, HB0.out, List.append_assoc]
        go_wp2_with fail
        refine CR.out.mono ?_
        rintro e w1 ⟨rfl, hb1⟩
        have HB1 := Lib.hid (HB.out.trans (hb1.mono HB.out.size))
        have HO1 := Lib.hid (HO.out.below hb1)
        clear hb1 CR HO
        have hbT : T[0].toNat < 256 := UInt8.toNat_lt _
        have hw1 := HB1.out.size
        go_wp2_with (at_builtin; first
          | (refine wpList_append_own _ rfl (.tmp 16) (.tmp 19) 43 rfl w.heap.size 5 i0 (.int .u8 0) 1 1 Tryd.underlying43 hi hz0 hz1 HZ2.out rfl (by decide) _ D.length (cellsU D) rfl (own_belowU HO1.out ((Below.refl _ _).alloc (Nat.le_refl _) _)) ⟨w1.heap.size, 0, none⟩ 1 1 [.int .u8 (T[0].toNat : Int)] rfl rfl ?news ?c1 ?c2 ?c3 ?c4 ?_))
        case news =>
          intro j u hj
          cases j with
          | zero => cases hj; show (w1.alloc _).cell? _ = _; rw [show ((⟨w1.heap.size, 0, none⟩ : Addr).add 0) = ⟨w1.heap.size, 0, none⟩ from rfl, ucell_at (heap_alloc_new ..)]; rfl
          | succ j => cases hj
        case c1 => intro u hu; simp at hu; subst hu; rfl
        case c2 => unfold maxLen; omega
        case c3 => omega
        case c4 => simp; omega
        rotate_left
        intro v' w' hown hgrow _
        have HO2 : Hid (URow w.heap.size w' v' (D ++ [T[0]'hz0'])) := by
          show World.ownsRow _ _ _ _ _ _ _
          rw [cellsU_app, List.length_append]
          exact hown
        have HB2 : Hid (Below w.heap.size w w') := (HB1.out.alloc hw1 _).grown hgrow (by simp; omega) (fun q hq => (HO1.out.lt q hq).1)
        clear hown hgrow
        go_wp2
        go_roundw
        case rel => exact ⟨X, _, by first | rfl | (rw [← hX, hn1]), by rw [List.length_append, List.length_singleton]; omega, HD2.out, HO2.out, HB2.out⟩
        case measure => simp [strLen]; first | omega | (rw [hsz]; omega) | (rw [← hX] at hsz; omega)
      · obtain ⟨k, rfl, hk⟩ := HGe.out hneg
        have HD2 : Hid ((D ++ byts (foldR k)) ++ foldedL X.data.toList = F) := by
          show _ = _
          rw [HXd.out, ← HD.out, HSt.out, if_neg (by omega), Int.toNat_natCast, List.append_assoc]
        have hfk := fold_rn k hk
        have hkr : k ≤ 1114111 := by unfold isRn at hk; exact (of_decide_eq_true hk).1
        have CFo : Hid (∀ W, Calls Tryd.prog 35 #[.int .i64 (k : Int)] W fun e w' => e = .returned (.int .i64 ((foldR k : Nat) : Int)) ∧ W = w') := fun W => by
          have := fold_any (k : Int) W (by omega)
          rw [foldI_nat] at this; exact this
        have CBy : Hid (∀ W, Calls Tryd.prog 31 #[.int .i64 ((foldR k : Nat) : Int)] W fun e w' => e = .returned (.string (utxt (byts (foldR k)))) ∧ Below W.heap.size W w') := fun W => bytes_any (foldR k) W hfk
        have hbl : (byts (foldR k)).length ≤ 4 := by rw [byts_len]; split; omega; split; omega; split <;> omega
        have hus := utxt_size (byts (foldR k))
        have HCe : Hid (Lib.strCells (utxt (byts (foldR k))) = cellsU (byts (foldR k))) := rfl
        clear hk hfk HSt
        generalize byts (foldR k) = Y at *
        generalize foldR k = fk at *
        obtain ⟨U, hU⟩ : ∃ U, utxt Y = U := ⟨_, rfl⟩
        rw [hU] at CBy hus HCe
        clear hU
        go_wp2_with fail
        refine CR.out.mono ?_
        rintro e w1 ⟨rfl, hb1⟩
        have HB1 := Lib.hid (HB.out.trans (hb1.mono HB.out.size))
        have HO1 := Lib.hid (HO.out.below hb1)
        clear hb1 CR HO
        go_wp2_with fail
        refine (CFo.out _).mono ?_
        rintro e w2 ⟨rfl, rfl⟩
        go_wp2_with fail
        refine (CBy.out _).mono ?_
        rintro e w2 ⟨rfl, hb2⟩
        have HB2 := Lib.hid (HB1.out.trans (hb2.mono HB1.out.size))
        have HO2 := Lib.hid (HO1.out.below hb2)
        have hw2 := HB2.out.size
        clear hb2
        go_wp2_with (at_builtin; first
          | (refine wpList_append_strU rfl (.tmp 21) (.tmp 24) 43 9 rfl w.heap.size 5 i0 Tryd.underlying43 Tryd.underlying9 hi hz0 hz1 HZ2.out _ D.length (cellsU D) rfl HO2.out U rfl ?c1 ?c2 ?c3 ?_))
        case c1 => unfold maxLen; omega
        case c2 => omega
        case c3 => exact hw2
        rotate_left
        intro v' w' hown hgrow
        have HO3 : Hid (URow w.heap.size w' v' (D ++ Y)) := by
          show World.ownsRow _ _ _ _ _ _ _
          rw [cellsU_app, List.length_append, ← HCe.out]
          exact hown
        have HB3 : Hid (Below w.heap.size w w') := HB2.out.grown hgrow (by omega) (fun q hq => (HO2.out.lt q hq).1)
        clear hown hgrow
        go_wp2
        go_roundw
        case rel => exact ⟨X, _, by first | rfl | (rw [← hX]; first | rfl | simp), by rw [List.length_append]; omega, HD2.out, HO3.out, HB3.out⟩
        case measure => simp [strLen]; first | omega | (rw [hsz]; omega) | (rw [← hX] at hsz; omega)
end Go.Proofs.YtbblmpibekkbfaaDoor
