/- A commit, and Open, at whatever turn the power goes: in plain lists. -/
import Derived.Test.YtodfcbpimglhdaaJSafe2
namespace Go.Proofs.Ytodfcbpimglhdaa
open Go.RowKit
open Fr (bs fixL nmAt headB topL unp WrOk packL)

section
variable {N n : Nat} {J : JS} {D : DevS} {H : Nat → ByteArray} {F : List (List Wr)} {L : List Wr}

theorem vN_unique {P : List (Nat × ByteArray)} {g : Nat → ByteArray} {x : Nat × ByteArray} (hx : x ∈ P) (hu : ∀ y ∈ P, y.1 = x.1 → y = x) : vN P g x.1 = x.2 := by
  unfold vN
  cases hf : P.reverse.find? (fun y => y.1 == x.1) with
  | none =>
    rw [List.find?_eq_none] at hf
    have := hf x (List.mem_reverse.2 hx)
    simp at this
  | some y =>
    have h1 := List.mem_reverse.1 (List.mem_of_find?_eq_some hf)
    have h2 : y.1 = x.1 := by simpa using List.find?_some hf
    simp only [hu y h1 h2]
theorem dataP (J : JS) (ds : List ByteArray) : natW (J.dataW ds) = (List.range (ds.length + 1)).map fun j => (J.pos (j + 1), (ds ++ [noughts]).getD j ByteArray.empty) := by
  unfold natW JS.dataW
  rw [List.map_append, List.map_map, List.range_succ, List.map_append]
  congr 1
  · apply List.map_congr_left
    intro i hi
    have : i < ds.length := List.mem_range.1 hi
    simp [List.getD, List.getElem?_append_left this]
  · simp [List.getD]
theorem pos_off (J : JS) (j : Nat) : J.pos j = 2 + (J.p + (J.full + j)) % J.log := by unfold JS.pos; rw [Nat.add_assoc]
theorem dataP_harm (h : J.full + L.length + 2 ≤ J.log) (x : Nat × ByteArray) (hx : x ∈ natW (J.dataW (L.map (·.2)))) : ∃ o, J.full < o ∧ o < J.log ∧ x.1 = 2 + (J.p + o) % J.log := by
  rw [dataP] at hx
  obtain ⟨j, hj, rfl⟩ := List.mem_map.1 hx
  have hj' := List.mem_range.1 hj
  rw [List.length_map] at hj'
  exact ⟨J.full + (j + 1), by omega, by omega, pos_off J (j + 1)⟩
theorem pos_ne (ok : J.Ok n) (i j : Nat) (hi : J.full + i < J.log) (hj : J.full + j < J.log) (h : i ≠ j) : J.pos i ≠ J.pos j := by
  rw [pos_off, pos_off]
  have := mod_ne J.p J.log (J.full + i) (J.full + j) hi hj (by omega)
  omega
theorem dataP_at (ok : J.Ok n) (h : J.full + L.length + 2 ≤ J.log) (Q : List (Nat × ByteArray)) (g : Nat → ByteArray) (j : Nat) (hj : j ≤ L.length) :
    vN (Q ++ natW (J.dataW (L.map (·.2)))) g (J.pos (j + 1)) = (L.map (·.2) ++ [noughts]).getD j ByteArray.empty := by
  rw [vN_append, dataP]
  refine vN_unique (x := (J.pos (j + 1), (L.map (·.2) ++ [noughts]).getD j ByteArray.empty)) (List.mem_map.2 ⟨j, List.mem_range.2 (by rw [List.length_map]; omega), rfl⟩) ?_
  intro y hy he
  obtain ⟨i, hi, rfl⟩ := List.mem_map.1 hy
  have hi' := List.mem_range.1 hi
  rw [List.length_map] at hi'
  by_cases e : i = j
  · rw [e]
  · exact absurd he (pos_ne ok (i + 1) (j + 1) (by omega) (by omega) (by omega))

/-- What a commit makes of home. -/
def put (H : Nat → ByteArray) (L : List Wr) : Nat → ByteArray := vN (natW L) H
theorem good_grow {g g' : Nat → ByteArray} (h : Good N g n J F) (hN : N + 1 < 1000000) (hc : J.chk n L = 0) (hr : J.full + L.length + 2 ≤ J.log) (hold : Older (g' (1 - J.side)) J.e) (h0 : g' J.side = g J.side)
    (hl : ∀ o, o < J.full → g' (2 + (J.p + o) % J.log) = g (2 + (J.p + o) % J.log)) (ht : g' (J.pos 0) = bs (topL J.next L)) (hd : ∀ j (hj : j < L.length), g' (J.pos (j + 1)) = L[j].2) (hz : g' (J.pos (L.length + 1)) = noughts) :
    Good (N + 1) g' n (J.grow (L.length + 1)) (F ++ [L]) ∧ g' ((J.grow (L.length + 1)).pos 0) = noughts := by
  have hb := h.bnd
  have en : (J.grow (L.length + 1)).next = J.next + 1 := Nat.mod_eq_of_lt (by omega)
  have ez : (J.grow (L.length + 1)).pos 0 = J.pos (L.length + 1) := by
    show 2 + (J.p + (J.full + (L.length + 1)) + 0) % J.log = _
    rw [Nat.add_zero, pos_off]
  have ok' := h.ok.grow (L.length + 1) (by omega)
  refine ⟨⟨ok', h.n4, h.lg, hN, ⟨by show J.e ≤ _; omega, by rw [en]; omega⟩, by rw [en, h.next, List.length_append]; rfl, by show J.full + (L.length + 1) = _; rw [fsz_append, h.full]; rfl, by show J.full + (L.length + 1) + 1 ≤ J.log; omega, h0.trans h.here, ?_, ?_, ?_, by rw [ez, hz]; exact headB_noughts⟩, by rw [ez]; exact hz⟩
  · refine ⟨g' (1 - J.side), 0, Nat.zero_le _, hold, by rw [layB_none]; rfl, fun e => ?_⟩
    have hp' := ok'.pos_lt 0
    have hll : (J.grow (L.length + 1)).log = J.log := rfl
    rw [hll] at hp'
    have hlg := h.lg
    have h128 : (g' (1 - J.side)).data.toList.drop 128 = halfL (J.e + 1) (J.grow (L.length + 1)).next J.log ((J.grow (L.length + 1)).pos 0 - 2) := by
      have e' : g' (1 - J.side) = slotB (J.e + 1) (J.grow (L.length + 1)).next J.log ((J.grow (L.length + 1)).pos 0 - 2) := e
      rw [e']
      show (halfL _ _ _ _ ++ halfL _ _ _ _).drop 128 = _
      rw [List.drop_left' (halfL_len ..)]
    have := hold.2 _ _ _ _ (by omega) (by rw [en]; omega) (by omega) (by omega) h128
    omega
  · have hl0 : LaidF g' J.log J.p 0 J.s F := h.laid.congr (fun i _ hi => hl i (by rw [h.full]; omega))
    refine hl0.snoc L ?_ ?_
    · rw [Nat.zero_add, ← h.full, ← h.next]
      have := pos_off J 0
      rw [Nat.add_zero] at this
      rw [← this]; exact ht
    · intro j hj
      rw [Nat.zero_add, ← h.full, Nat.add_assoc, ← pos_off]
      exact hd j hj
  · intro f hf
    rw [chk_log (J := J.grow (L.length + 1)) (K := J) rfl]
    rcases List.mem_append.1 hf with hf | hf
    · exact h.fine f hf
    · simp at hf; subst hf; exact hc
theorem flat_snoc (F : List (List Wr)) (L : List Wr) : natW (F ++ [L]).flatten = natW F.flatten ++ natW L := by
  rw [List.flatten_append, natW_append]; simp

/-- A commit for which there is room: the log first, then home. -/
theorem add_safe (h : Sync N n J D H F) (hN : N + 1 < 1000000) (hc : J.chk n L = 0) (hr : J.full + L.length + 2 ≤ J.log) (R : Int × DevS × JS) (hR : R = J.addF D (bs (topL J.next L)) (L.map (·.2))) :
    (R.1 = 4 ∧ R.2.1.dead = true ∧ R.2.1.Ok ∧ R.2.1.disk.length = n ∧ Safe (N + 1) n R.2.1 (fun X => X = H ∨ X = put H L)) ∨
    (R.1 = 0 ∧ R.2.2 = J.grow (L.length + 1) ∧ (((R.2.1.wrs L).1 = 0 ∧ Sync (N + 1) n (J.grow (L.length + 1)) (R.2.1.wrs L).2 (put H L) (F ++ [L])) ∨ ((R.2.1.wrs L).1 = 4 ∧ (R.2.1.wrs L).2.dead = true ∧ (R.2.1.wrs L).2.Ok ∧ (R.2.1.wrs L).2.disk.length = n ∧ Safe (N + 1) n (R.2.1.wrs L).2 (fun X => X = H ∨ X = put H L)))) := by
  have hp := h.pre
  have hg := hp.good
  have hb := hg.bnd; have hlg := hg.lg; have hs := hg.ok.si; have hp0 := hg.ok.pos_lt 0; have hl1 := hg.ok.l1; have h4 := hg.n4
  obtain ⟨l1, l2, hw⟩ := (J.chk_ok n L).1 hc
  have hw' : ∀ x ∈ L, Fr.WrOk x := fun x hx => JS.wrok_frame h4 (hw x hx)
  have hhome : J.home = 52 := by unfold JS.home; omega
  have htop : (bs (topL J.next L)).size = 256 := by rw [Fr.bs_len, Fr.topL_len _ _ l2]
  have hnl : ∀ x ∈ natW L, 52 ≤ x.1 ∧ x.1 < n ∧ x.2.size = 256 := by
    intro x hx
    obtain ⟨y, hy, rfl⟩ := List.mem_map.1 hx
    obtain ⟨a, b, c⟩ := hw y hy
    rw [hhome] at a
    exact ⟨by simp only; omega, by simp only; omega, c⟩
  have hfitL : Fit n L := fun x hx => by obtain ⟨a, b, c⟩ := hw x hx; rw [hhome] at a; exact ⟨by omega, by omega, c⟩
  have hdat : ∀ x ∈ natW (J.dataW (L.map (·.2))), x.1 < n ∧ x.2.size = 256 := by
    intro x hx
    obtain ⟨o, _, _, ho⟩ := dataP_harm hr x hx
    have hm := Nat.mod_lt (J.p + o) (show 0 < J.log by omega)
    refine ⟨by omega, ?_⟩
    rw [dataP] at hx
    obtain ⟨j, hj, rfl⟩ := List.mem_map.1 hx
    have hj' := List.mem_range.1 hj
    rw [List.length_map] at hj'
    by_cases hjl : j < L.length
    · simp [List.getD, List.getElem?_append_left, hjl]
      exact (hw _ (List.getElem_mem hjl)).2.2
    · have : j = L.length := by omega
      subst this
      simp [List.getD, noughts_size]
  have hfit1 : Fit D.disk.length (J.dataW (L.map (·.2))) := by
    intro x hx
    have h1 : (x.1.toNat, x.2) ∈ natW (J.dataW (L.map (·.2))) := List.mem_map.2 ⟨x, hx, rfl⟩
    have h2 := hdat _ h1
    have h3 : 0 ≤ x.1 := by
      unfold JS.dataW at hx
      rcases List.mem_append.1 hx with hx | hx
      · obtain ⟨i, _, rfl⟩ := List.mem_map.1 hx; simp only; omega
      · simp at hx; subst hx; simp only; omega
    rw [hp.len]
    exact ⟨h3, by have := h2.1; simp only at this; omega, h2.2⟩
  have hlow : ∀ x ∈ D.pend, ∀ b, b < 52 → x.1 ≠ b := fun x hx b hb => by have := (hp.pend x hx).1; omega
  have hoff : ∀ o, 2 + (J.p + o) % J.log < 52 := fun o => by have := Nat.mod_lt (J.p + o) (show 0 < J.log by omega); omega
  subst hR
  unfold JS.addF
  simp only
  rcases stl_cases D _ hp.live hfit1 with ⟨a1, a2, a3, a4⟩ | ⟨a1, a2, a3, k, hk, a4⟩
  · rw [if_neg (by rw [a1]; simp)]
    have ok1 : (D.stl (J.dataW (L.map (·.2)))).2.Ok := stl_ok hp.dok hfit1
    generalize hD1 : (D.stl (J.dataW (L.map (·.2)))).2 = D1 at *
    have hpp : ∀ x ∈ D.pend ++ natW (J.dataW (L.map (·.2))), x.1 < D.disk.length ∧ x.2.size = 256 := by
      intro x hx
      rcases List.mem_append.1 hx with hx | hx
      · exact hp.dok.pends x hx
      · rw [hp.len]; exact hdat x hx
    have len1 : D1.disk.length = n := by rw [a3, laidTo_length]; exact hp.len
    have g1 : ∀ b, b < n → gd D1.disk b = vN (D.pend ++ natW (J.dataW (L.map (·.2)))) (gd D.disk) b := fun b hb => by
      rw [a3]; exact laid256 b (by rw [hp.len]; exact hb) hp.dok.whole hpp
    have g1d : ∀ j, j ≤ L.length → gd D1.disk (J.pos (j + 1)) = (L.map (·.2) ++ [noughts]).getD j ByteArray.empty := fun j hj => by
      have := hg.ok.pos_lt (j + 1)
      rw [g1 _ (by omega)]; exact dataP_at hg.ok hr D.pend _ j hj
    have g1l : ∀ b, b < 52 → (∀ o, J.full < o → o < J.log → b ≠ 2 + (J.p + o) % J.log) → gd D1.disk b = gd D.disk b := fun b hb hne => by
      rw [g1 b (by omega)]
      exact vN_none (fun x hx => by
        rcases List.mem_append.1 hx with hx | hx
        · exact hlow x hx b hb
        · obtain ⟨o, h1, h2, h3⟩ := dataP_harm hr x hx
          rw [h3]; exact fun e => hne o h1 h2 e.symm)
    have g1o : ∀ o, o ≤ J.full → gd D1.disk (2 + (J.p + o) % J.log) = gd D.disk (2 + (J.p + o) % J.log) := fun o ho => g1l _ (hoff o) (fun o' h1 h2 => by
      have := mod_ne J.p J.log o o' (by omega) h2 (by omega); omega)
    have g1s : gd D1.disk J.side = gd D.disk J.side ∧ gd D1.disk (1 - J.side) = gd D.disk (1 - J.side) := ⟨g1l _ (by omega) (fun o _ _ => by omega), g1l _ (by omega) (fun o _ _ => by omega)⟩
    have g1h : ∀ b, 52 ≤ b → b < n → gd D1.disk b = H b := fun b hb hbn => by
      rw [g1 b hbn, vN_append, vN_none (P := natW (J.dataW (L.map (·.2)))) (fun x hx => by obtain ⟨o, _, _, h3⟩ := dataP_harm hr x hx; have := hoff o; omega), ← rdB_vN]
      exact hp.read b hb hbn
    have good1 : Good N (gd D1.disk) n J F := hg.change g1s.1 g1s.2 g1o
    have hpz : J.pos 0 = 2 + (J.p + J.full) % J.log := rfl
    have zero1 : gd D1.disk (J.pos 0) = noughts := by rw [hpz, g1o _ (Nat.le_refl _), ← hpz]; exact h.zero
    have view1 : ∀ b, 52 ≤ b → b < n → vN (natW F.flatten) (gd D1.disk) b = H b := fun b hb hbn => by
      by_cases hx : ∃ x ∈ natW F.flatten, x.1 = b
      · rw [vN_hit (g' := gd D.disk) (.inl hx)]; exact hp.view b hb hbn
      · rw [vN_none (fun x hx' e => hx ⟨x, hx', e⟩)]; exact g1h b hb hbn
    have hfit2 : Fit D1.disk.length [(((J.pos 0 : Nat) : Int), bs (topL J.next L))] := by
      intro x hx; simp only [List.mem_singleton] at hx; subst hx; rw [len1]; exact ⟨by simp only; omega, by simp only; omega, htop⟩
    have hnat2 : natW [(((J.pos 0 : Nat) : Int), bs (topL J.next L))] = [(J.pos 0, bs (topL J.next L))] := by simp [natW]
    -- whatever disk has the whole head
    have whole : ∀ g' : Nat → ByteArray, g' (J.pos 0) = bs (topL J.next L) → (∀ b, b ≠ J.pos 0 → b < n → g' b = gd D1.disk b) →
        (Good (N + 1) g' n (J.grow (L.length + 1)) (F ++ [L]) ∧ g' ((J.grow (L.length + 1)).pos 0) = noughts) ∧ ∀ b, 52 ≤ b → b < n → vN (natW (F ++ [L]).flatten) g' b = put H L b := by
      intro g' ht ho
      have hne : ∀ j, J.full + (j + 1) < J.log → J.pos (j + 1) ≠ J.pos 0 := fun j hj => pos_ne hg.ok (j + 1) 0 hj (by omega) (by omega)
      have hpl : ∀ j, J.pos j < n := fun j => by have := hg.ok.pos_lt j; omega
      refine ⟨good_grow good1 hN hc hr ?_ (ho _ (by omega) (by omega)) (fun o ho' => ho _ (by rw [hpz]; have := mod_ne J.p J.log o J.full (by omega) (by omega) (by omega); omega) (by have := hoff o; omega)) ht (fun j hj => ?_) ?_, fun b hb hbn => ?_⟩
      · rw [ho _ (by omega) (by omega), g1s.2]; exact h.older
      · rw [ho _ (hne j (by omega)) (hpl _), g1d j (by omega)]
        simp [List.getD, List.getElem?_append_left, hj]
      · rw [ho _ (hne L.length (by omega)) (hpl _), g1d L.length (Nat.le_refl _)]
        simp [List.getD]
      · rw [flat_snoc, vN_append]
        unfold put
        apply vN_hit
        right
        rw [vN_hit (g' := gd D1.disk) (.inr (ho b (by omega) hbn))]
        exact view1 b hb hbn
    rcases stl_cases D1 _ a2 hfit2 with ⟨b1, b2, b3, b4⟩ | ⟨b1, b2, b3, k, hk, b4⟩
    · right
      rw [if_neg (by rw [b1]; simp)]
      have ok2 : (D1.stl [(((J.pos 0 : Nat) : Int), bs (topL J.next L))]).2.Ok := stl_ok ok1 hfit2
      generalize hD2 : (D1.stl [(((J.pos 0 : Nat) : Int), bs (topL J.next L))]).2 = D2 at *
      rw [hnat2, a4, List.nil_append] at b3
      have hpp2 : ∀ x ∈ [(J.pos 0, bs (topL J.next L))], x.1 < D1.disk.length ∧ x.2.size = 256 := by
        intro x hx; simp at hx; subst hx; exact ⟨by rw [len1]; simp only; omega, htop⟩
      have len2 : D2.disk.length = n := by rw [b3, laidTo_length]; exact len1
      have g2 : ∀ b, b < n → gd D2.disk b = vN [(J.pos 0, bs (topL J.next L))] (gd D1.disk) b := fun b hb => by
        rw [b3]; exact laid256 b (by rw [len1]; exact hb) ok1.whole hpp2
      have g2s : gd D2.disk (J.pos 0) = bs (topL J.next L) := by rw [g2 _ (by omega)]; exact vN_at (P := []) (Q := []) (x := (J.pos 0, bs (topL J.next L))) (fun y hy => by cases hy)
      have g2o : ∀ b, b ≠ J.pos 0 → b < n → gd D2.disk b = gd D1.disk b := fun b hne hb => by
        rw [g2 b hb]; exact vN_none (fun x hx => by simp at hx; subst hx; exact fun e => hne e.symm)
      obtain ⟨⟨q1, q2⟩, q3⟩ := whole (gd D2.disk) g2s g2o
      refine ⟨rfl, by rw [List.length_map], ?_⟩
      obtain ⟨k, hk⟩ := wrs_cases L D2 b2 (by rw [len2]; exact hfitL)
      have ok3 := wrs_ok L D2 ok2
      have hpn : (D2.wrs L).2.pend = natW (L.take k) := by rw [hk.pend, b4, List.nil_append]
      have hin : ∀ x ∈ natW L, ∃ y ∈ natW (F ++ [L]).flatten, y.1 = x.1 := fun x hx => ⟨x, by rw [flat_snoc]; exact List.mem_append_right _ hx, rfl⟩
      have hsub : ∀ x ∈ (D2.wrs L).2.pend, 52 ≤ x.1 ∧ ∃ y ∈ natW (F ++ [L]).flatten, y.1 = x.1 := by
        intro x hx
        rw [hpn] at hx
        have hx' : x ∈ natW L := by
          obtain ⟨y, hy, rfl⟩ := List.mem_map.1 hx
          exact List.mem_map.2 ⟨y, List.mem_of_mem_take hy, rfl⟩
        exact ⟨(hnl x hx').1, hin x hx'⟩
      rcases hk.how with ⟨c1, c2, c3⟩ | ⟨c1, c2⟩
      · left
        refine ⟨c1, ⟨⟨ok3, c3, by rw [hk.disk]; exact len2, by rw [hk.disk]; exact q1, hsub, by rw [hk.disk]; exact q3, fun b hb hbn => ?_⟩, by rw [hk.disk]; exact q2, by rw [hk.disk]; show Older (gd D2.disk (1 - J.side)) J.e; rw [g2o _ (by omega) (by omega), g1s.2]; exact h.older⟩⟩
        rw [rdB_vN, hpn, c2, List.take_length, hk.disk]
        unfold put
        apply vN_hit
        right
        rw [g2o b (by omega) hbn]; exact g1h b hb hbn
      · right
        refine ⟨c1, c2, ok3, by rw [hk.disk]; exact len2, fun f hf => ⟨put H L, _, _, .inr rfl, harm_rec hf ok3 (by rw [hk.disk]; exact len2) (by rw [hk.disk]; exact q1) (by rw [hk.disk]; exact q3) (fun x hx => .inl (hsub x hx))⟩⟩
    · left
      rw [if_pos (by rw [b1]; simp)]
      have ok2 : (D1.stl [(((J.pos 0 : Nat) : Int), bs (topL J.next L))]).2.Ok := stl_ok ok1 hfit2
      refine ⟨b1, b2, ok2, by rw [b3]; exact len1, fun f hf => ?_⟩
      have hsz := (ok2.settled f (fun k _ => hf k)).whole
      simp only at hsz
      rw [b3, b4, a4, List.nil_append] at hsz ⊢
      rcases list_take_one _ k hk with e | e
      · rw [e] at hsz ⊢
        exact ⟨H, J, F, .inl rfl, ⟨len1, ok1.whole, good1.more (by omega) hN, view1⟩⟩
      · rw [e, hnat2] at hsz ⊢
        have g2s := laid_one (f := f) (P := []) (disk := D1.disk) (J.pos 0) (bs (topL J.next L)) (fun y hy => by cases hy) (by omega)
        have g2o : ∀ b, b ≠ J.pos 0 → gd (laidTo f ([] ++ [(J.pos 0, bs (topL J.next L))]) D1.disk ([] ++ [(J.pos 0, bs (topL J.next L))]).length) b = gd D1.disk b := fun b hne => laid_other b _ (fun x hx => by simp at hx; subst hx; exact fun e => hne e.symm)
        rw [List.nil_append] at g2s g2o
        have len2 : (laidTo f [(J.pos 0, bs (topL J.next L))] D1.disk [(J.pos 0, bs (topL J.next L))].length).length = n := by rw [laidTo_length]; exact len1
        generalize laidTo f [(J.pos 0, bs (topL J.next L))] D1.disk [(J.pos 0, bs (topL J.next L))].length = d2 at *
        rw [zero1] at g2s
        by_cases hT : f ([] : List (Nat × ByteArray)).length = 256
        · rw [hT, layB_all _ _ htop noughts_size] at g2s
          obtain ⟨⟨q1, _⟩, q3⟩ := whole (gd d2) g2s (fun b hne _ => g2o b hne)
          exact ⟨put H L, _, _, .inr rfl, ⟨len2, hsz, q1, q3⟩⟩
        · have hlt : f ([] : List (Nat × ByteArray)).length < 256 := by have := hf ([] : List (Nat × ByteArray)).length; omega
          have hc2 : Good N (gd d2) n J F := good1.swap (g2o _ (by omega)) (g2o _ (by omega)) (fun o ho => g2o _ (by rw [hpz]; have := mod_ne J.p J.log o J.full (by omega) (by omega) (by omega); omega)) (by rw [g2s]; exact torn_head _ _ htop hlt)
          refine ⟨H, J, F, .inl rfl, ⟨len2, hsz, hc2.more (by omega) hN, fun b hb hbn => ?_⟩⟩
          rw [vN_hit (g' := gd D1.disk) (.inr (g2o b (by omega)))]; exact view1 b hb hbn
  · left
    rw [if_pos (by rw [a1]; simp)]
    have ok1 : (D.stl (J.dataW (L.map (·.2)))).2.Ok := stl_ok hp.dok hfit1
    refine ⟨a1, a2, ok1, by rw [a3]; exact hp.len, fun f hf => ⟨H, J, F, .inl rfl, Rec.more (harm_rec hf ok1 (by rw [a3]; exact hp.len) (by rw [a3]; exact hg) (by rw [a3]; exact hp.view) ?_) (by omega) hN⟩⟩
    intro x hx
    rw [a4] at hx
    rcases List.mem_append.1 hx with hx | hx
    · exact .inl (hp.pend x hx)
    · have hx' : x ∈ natW (J.dataW (L.map (·.2))) := by
        obtain ⟨y, hy, rfl⟩ := List.mem_map.1 hx
        exact List.mem_map.2 ⟨y, List.mem_of_mem_take hy, rfl⟩
      exact .inr (dataP_harm hr x hx')
end
end Go.Proofs.Ytodfcbpimglhdaa
