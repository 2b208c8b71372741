/- What home answers: the blocks from 52 on, as they are read. -/
import Derived.Test.YtepfcaopboenpaaGreatZLWrites
import Derived.Test.YtepfcaopboenpaaGreatZLBegin
import Derived.Test.YtepfcaopboenpaaGreatZJCommit
import Derived.Test.YtepfcaopboenpaaGreatZJRedo
import Derived.Deep.RegionHeld3

namespace Go.Proofs.YtepfcaopboenpaaGreat
open Go.RowKit
open Fr (OwnS one_cell one_one)

/-- What lies at home, as it is read. -/
def homeK (D : DevS) (k : Nat) : List ByteArray := (List.range k).map fun i => (D.rd ((52 + i : Nat) : Int)).1
def DevS.homeL (D : DevS) : List ByteArray := homeK D 18
theorem homeK_succ (D : DevS) (k : Nat) : homeK D (k + 1) = homeK D k ++ [(D.rd ((52 + k : Nat) : Int)).1] := by unfold homeK; rw [List.range_succ, List.map_append]; rfl
theorem homeK_len (D : DevS) (k : Nat) : (homeK D k).length = k := by simp [homeK]
theorem own_pushS {B : Nat} {w1 : World} {v1 : Value} {M : List ByteArray} {s : ByteArray} (hown : w1.ownsRow B 9 1 v1 (M.length + 1) (M.map Value.string ++ [.string s])) : OwnS B w1 v1 (M ++ [s]) := by
  unfold OwnS
  rw [List.length_append, List.map_append]
  exact hown

section
variable {w0 w : World} {wb a p : Nat} {S : Nat → Prop} {J : JS} {D : DevS}
end
end Go.Proofs.YtepfcaopboenpaaGreat
/- The chapter's examples: shown returns true. -/
namespace Go.Proofs.YtepfcaopboenpaaGreat
open Go.RowKit
open Fr (SlW)

section
variable {D : DevS} {J : JS} {L : List Wr} {n N : Nat} {H : Nat → ByteArray} {F : List (List Wr)}
theorem nf_addF (J : JS) (top : ByteArray) (ds : List ByteArray) (h : D.fused = false) : NF D (J.addF D top ds).2.1 := by
  have h1 := nf_stl (J.dataW ds) h
  unfold JS.addF
  simp only
  split
  · exact h1
  · have h2 := nf_stl [(((J.pos 0 : Nat) : Int), top)] h1.1
    split
    · exact ⟨h2.1, h2.2.trans h1.2⟩
    · exact ⟨h2.1, h2.2.trans h1.2⟩
/-- A commit behind the checkpoint that may come first. -/
def comR (J : JS) (L : List Wr) (c : Int × DevS × JS) : Int × DevS × JS :=
  if c.1 ≠ 0 then c else if (c.2.2.addF c.2.1 (Fr.bs (Fr.topL J.next L)) (L.map (·.2))).1 ≠ 0 then c.2.2.addF c.2.1 (Fr.bs (Fr.topL J.next L)) (L.map (·.2)) else
    (((c.2.2.addF c.2.1 (Fr.bs (Fr.topL J.next L)) (L.map (·.2))).2.1.wrs L).1, ((c.2.2.addF c.2.1 (Fr.bs (Fr.topL J.next L)) (L.map (·.2))).2.1.wrs L).2, (c.2.2.addF c.2.1 (Fr.bs (Fr.topL J.next L)) (L.map (·.2))).2.2)
theorem commit_eq (J : JS) (D : DevS) (L : List Wr) : J.commit D L = if J.chk D.disk.length L ≠ 0 then ((J.chk D.disk.length L : Int), D, J) else comR J L (if J.left < L.length + 2 then J.ckp D else (0, D, J)) := rfl
theorem nf_comR {c : Int × DevS × JS} (hc : NF D c.2.1) : NF D (comR J L c).2.1 := by
  unfold comR
  split
  · exact hc
  · have h2 := nf_addF c.2.2 (Fr.bs (Fr.topL J.next L)) (L.map (·.2)) hc.1
    split
    · exact ⟨h2.1, h2.2.trans hc.2⟩
    · have h3 := nf_wrs L _ h2.1
      exact ⟨h3.1, h3.2.trans (h2.2.trans hc.2)⟩
theorem nf_commit (J : JS) (L : List Wr) (h : D.fused = false) : NF D (J.commit D L).2.1 := by
  rw [commit_eq]
  by_cases hk : J.chk D.disk.length L ≠ 0
  · rw [if_pos hk]; exact ⟨h, rfl⟩
  · rw [if_neg hk]
    apply nf_comR
    by_cases hl : J.left < L.length + 2
    · rw [if_pos hl]; exact nf_ckp J h
    · rw [if_neg hl]; exact ⟨h, rfl⟩
theorem comR_J {c : Int × DevS × JS} (h : (comR J L c).1 = 0) : c.1 = 0 ∧ (comR J L c).2.2 = c.2.2.grow (L.length + 1) := by
  unfold comR at *
  by_cases h1 : c.1 ≠ 0
  · rw [if_pos h1] at h; exact absurd h h1
  · rw [if_neg h1] at h ⊢
    by_cases h2 : (c.2.2.addF c.2.1 (Fr.bs (Fr.topL J.next L)) (L.map (·.2))).1 ≠ 0
    · rw [if_pos h2] at h; exact absurd h h2
    · rw [if_neg h2]
      refine ⟨by simpa using h1, ?_⟩
      show (c.2.2.addF c.2.1 (Fr.bs (Fr.topL J.next L)) (L.map (·.2))).2.2 = _
      rw [JS.addF_good (by simpa using h2), List.length_map]
theorem commit_J (h : (J.commit D L).1 = 0) : (J.commit D L).2.2 = (if J.left < L.length + 2 then J.next' else J).grow (L.length + 1) ∧ J.chk D.disk.length L = 0 := by
  rw [commit_eq] at *
  by_cases hk : J.chk D.disk.length L ≠ 0
  · rw [if_pos hk] at h
    have : (J.chk D.disk.length L : Int) = 0 := h
    omega
  · rw [if_neg hk] at h ⊢
    obtain ⟨h1, h2⟩ := comR_J h
    refine ⟨?_, by simpa using hk⟩
    rw [h2]
    by_cases hl : J.left < L.length + 2
    · rw [if_pos hl] at h1
      rw [if_pos hl, if_pos hl, JS.ckp_good h1]
    · rw [if_neg hl, if_neg hl]
/-- A commit without a fuse. -/
theorem commit_sure (h : Sync N n J D H F) (hN : N + 2 < 1000000) (hc : J.chk n L = 0) (hf : D.fused = false) :
    (J.commit D L).1 = 0 ∧ (∃ F', Sync (N + 2) n (J.commit D L).2.2 (J.commit D L).2.1 (put H L) (F' ++ [L])) ∧ (J.commit D L).2.2 = (if J.left < L.length + 2 then J.next' else J).grow (L.length + 1) ∧ (J.commit D L).2.1.fused = false := by
  rcases commit_safe h hN hc with ⟨a, b⟩ | ⟨a, b⟩
  · exact ⟨a, b, (commit_J a).1, (nf_commit J L hf).1⟩
  · have := (nf_commit J L hf).2
    rw [b.dead, h.pre.live] at this
    cases this
end

theorem comR_len {J : JS} {L : List Wr} {c : Int × DevS × JS} {m : Nat} (hc : c.2.1.pend.length ≤ m) : (comR J L c).2.1.pend.length ≤ m + 2 * L.length + 2 := by
  unfold comR
  have h1 := JS.addF_len (J := c.2.2) (D := c.2.1) (top := Fr.bs (Fr.topL J.next L)) (ds := L.map (·.2))
  rw [List.length_map] at h1
  split
  · omega
  · split
    · omega
    · have h2 := (c.2.2.addF c.2.1 (Fr.bs (Fr.topL J.next L)) (L.map (·.2))).2.1.wrs_len L
      simp only
      omega
theorem commit_len (J : JS) (D : DevS) (L : List Wr) : (J.commit D L).2.1.pend.length ≤ D.pend.length + 2 * L.length + 4 := by
  rw [commit_eq]
  by_cases hk : J.chk D.disk.length L ≠ 0
  · rw [if_pos hk]; show D.pend.length ≤ _; omega
  · rw [if_neg hk]
    by_cases hl : J.left < L.length + 2
    · rw [if_pos hl]
      have := comR_len (J := J) (L := L) (c := J.ckp D) (m := D.pend.length + 2) JS.ckp_len
      omega
    · rw [if_neg hl]
      have := comR_len (J := J) (L := L) (c := (0, D, J)) (m := D.pend.length) (Nat.le_refl _)
      omega
theorem commit_bad (J : JS) (D : DevS) (L : List Wr) (h : J.chk D.disk.length L ≠ 0) : J.commit D L = ((J.chk D.disk.length L : Int), D, J) := by rw [commit_eq, if_pos h]
/-- The examples' commits. -/
theorem shown_math {DB : DevS} {TA TB : ByteArray} (hsy : Sync 2 60 Jb DB (fun _ => noughts) []) (hp : DB.pend = []) (hf : DB.fused = false) (zA : TA.size = 256) (zB : TB.size = 256) :
    ∃ DC, Jb.commit DB [(53, TA), (59, TB)] = (0, DC, Jb.grow 3) ∧ DC.rd 53 = (TA, 0) ∧ DC.pend.length ≤ 1000 ∧ (Jb.grow 3).commit DC [(51, TA)] = (2, DC, Jb.grow 3) ∧ (Jb.grow 3).Ok DC.disk.length := by
  have hhome : Jb.home = 52 := rfl
  have hc : Jb.chk 60 [(53, TA), (59, TB)] = 0 := by
    refine (Jb.chk_ok 60 _).2 ⟨by simp, by simp, fun x hx => ?_⟩
    simp only [List.mem_cons, List.not_mem_nil, or_false] at hx
    rcases hx with rfl | rfl
    · exact ⟨by rw [hhome]; show ((52 : Nat) : Int) ≤ 53; omega, by show (53 : Int) < ((60 : Nat) : Int); omega, zA⟩
    · exact ⟨by rw [hhome]; show ((52 : Nat) : Int) ≤ 59; omega, by show (59 : Int) < ((60 : Nat) : Int); omega, zB⟩
  obtain ⟨a1, ⟨F', a2⟩, a3, a4⟩ := commit_sure hsy (by omega) hc hf
  have hl : ¬ Jb.left < [((53 : Int), TA), (59, TB)].length + 2 := by
    have : Jb.left = 50 := rfl
    rw [this]; simp
  rw [if_neg hl] at a3
  have hlen := commit_len Jb DB [(53, TA), (59, TB)]
  rw [hp] at hlen
  generalize hR : Jb.commit DB [(53, TA), (59, TB)] = R at *
  obtain ⟨e, DC, JC⟩ := R
  simp only at a1 a2 a3 a4 hlen
  have a3' : JC = Jb.grow 3 := a3
  subst a1 a3'
  refine ⟨DC, rfl, ?_, by simp at hlen; omega, ?_, by rw [a2.pre.len]; exact a2.pre.good.ok⟩
  · have h1 := a2.pre.read 53 (by omega) (by omega)
    have h2 := DevS.rd_live a2.pre.live 53 (by rw [a2.pre.len]; omega)
    rw [h1] at h2
    rw [show ((53 : Nat) : Int) = 53 from rfl] at h2
    have hput : put (fun _ => noughts) [(53, TA), (59, TB)] 53 = TA := by
      unfold put
      exact vN_unique (P := natW [(53, TA), (59, TB)]) (x := (53, TA)) (by simp [natW]) (fun y hy he => by
        simp [natW] at hy
        rcases hy with rfl | rfl
        · rfl
        · simp at he)
    rw [h2, hput]
  · have hb : (Jb.grow 3).chk DC.disk.length [(51, TA)] = 2 := by
      unfold JS.chk
      rw [if_neg (by simp)]
      unfold JS.chkL JS.chk1
      have h51 : ((51 : Int), TA).1 < ((Jb.grow 3).home : Int) := by show (51 : Int) < ((52 : Nat) : Int); omega
      rw [if_neg (by rw [if_pos (.inl h51)]; omega), if_pos (.inl h51)]
    rw [commit_bad _ _ _ (by rw [hb]; decide), hb]
    rfl
theorem two_writes (w : World) (i j : Int) (s t : ByteArray) : SlW (w.alloc (.cells #[.int .i64 i, .string s, .int .i64 j, .string t] 73)) (.slice (some ⟨w.heap.size, 0, none⟩) 2 2) [(i, s), (j, t)] := by
  refine ⟨_, 2, rfl, Nat.le_refl _, .inr ⟨w.heap.size, 0, rfl, by simp, fun k hk => ?_⟩⟩
  have : k = 0 ∨ k = 1 := by simp at hk; omega
  rcases this with rfl | rfl
  · exact ⟨by rw [cell_at (heap_alloc_new ..)]; rfl, by rw [cell_at (heap_alloc_new ..)]; rfl⟩
  · exact ⟨by rw [cell_at (heap_alloc_new ..)]; rfl, by rw [cell_at (heap_alloc_new ..)]; rfl⟩

set_option maxRecDepth 100000 in
set_option maxHeartbeats 2000000 in
theorem shown_any (w : World) : Calls Tryz.prog 4 #[] w fun e w' => e = .returned (.bool true) ∧ Below w.heap.size w w' := by
  obtain ⟨Z, DF, _, cn, cf, co, cz, cr⟩ := begin_pack 60 (by omega) (by omega)
  have CN := Lib.hid cn; have CF := Lib.hid cf; have CO := Lib.hid co; have CZ := Lib.hid cz
  have CR : Hid (∀ (S : Nat → Prop) W p, Stands S W p Z → Calls Tryz.prog 25 #[.pointer (some ⟨p, 0, none⟩), .int .i64 58] W fun e w' => e = .returned (.int .i64 2) ∧ Leaves S W w' p Z) := fun S W p h => cr S W p 58 (by omega) h
  clear cn cf co cz cr
  obtain ⟨_, hsy, hpn, hfu⟩ := begin_sync 60 (by omega) (by omega)
  have HSY := Lib.hid hsy; have HFU := Lib.hid hfu; have HPN := Lib.hid hpn
  clear hsy hfu hpn
  generalize Db 60 = DB at *
  go_enter Tryz.func4, Tryz.ntmps4
  go_wp2_with fail
  refine (CN.out _).mono ?_
  rintro e w1 ⟨pd, rfl, hf1⟩
  obtain ⟨S1, hS1, hs1, hb1⟩ := hf1
  have HS1 := Lib.hid hS1; have HB1 := Lib.hid hb1; have HD1 := Lib.hid hs1
  clear hS1 hb1 hs1
  go_wp2_with fail
  refine (CN.out _).mono ?_
  rintro e w2 ⟨pc, rfl, hf2⟩
  obtain ⟨S2, hS2, hs2, hb2⟩ := hf2
  have HS2 := Lib.hid hS2; have HB2 := Lib.hid hb2; have HC2 := Lib.hid hs2
  have HD2 := Lib.hid (HD1.out.below hb2)
  clear hS2 hb2 hs2
  go_wp2_with fail
  refine (CR.out S1 w2 pd HD2.out).mono ?_
  rintro e w3 ⟨rfl, hv3⟩
  obtain ⟨S3, hS3, hs3, ho3⟩ := hv3
  have hz1 := HB1.out.size; have hz2 := HB2.out.size
  have hl1 := HD1.out.lt
  have HDis3 : Hid (∀ k, S3 k → ¬ S2 k) := fun k hk h2 => by
    have h3 := HS2.out k h2; have h4 := HC2.out.lt k h2
    rcases hS3 k hk with h | h
    · have := hl1 k h; omega
    · omega
  have HC3 : Hid (Stands S2 w3 pc Z) := HC2.out.kept ho3 (fun k hk h1 => by have := HS2.out k hk; have := hl1 k h1; omega)
  have HD3 := Lib.hid hs3
  have HB3 : Hid (Below w.heap.size w w3) := (HB1.out.trans (HB2.out.mono hz1)).trans (ho3.below (by omega) (fun k _ hk => HS1.out k hk))
  have HS3 : Hid (∀ k, S3 k → w.heap.size ≤ k) := fun k hk => by rcases hS3 k hk with h | h; exact HS1.out k h; omega
  clear hS3 hs3 ho3 hl1
  go_wp2_with fail
  refine (CF.out S3 w3 pd HD3.out).mono ?_
  rintro e w4 ⟨rfl, hv4⟩
  obtain ⟨S4, hS4, hs4, ho4⟩ := hv4
  have hz3 := HB3.out.size
  have HDis4 : Hid (∀ k, S4 k → ¬ S2 k) := fun k hk h2 => by
    rcases hS4 k hk with h | h
    · exact HDis3.out k h h2
    · have := HC3.out.lt k h2; omega
  have HC4 : Hid (Stands S2 w4 pc Z) := HC3.out.kept ho4 (fun k hk h1 => HDis3.out k h1 hk)
  have HD4 := Lib.hid hs4
  have HB4 : Hid (Below w.heap.size w w4) := HB3.out.trans (ho4.below hz3 (fun k _ hk => HS3.out k hk))
  have HS4 : Hid (∀ k, S4 k → w.heap.size ≤ k) := fun k hk => by rcases hS4 k hk with h | h; exact HS3.out k h; omega
  clear hS4 hs4 ho4
  go_wp2_with fail
  refine (CZ.out S2 w4 pc HC4.out).mono ?_
  rintro e w5 ⟨rfl, ho5⟩
  have hz4 := HB4.out.size
  have HD5 : Hid (Stands S4 w5 pd DF) := HD4.out.kept ho5 (fun k hk h1 => HDis4.out k hk h1)
  have HB5 : Hid (Below w.heap.size w w5) := HB4.out.trans (ho5.below hz4 (fun k _ hk => by have := HS2.out k hk; omega))
  clear ho5 HD4 HC4 HC3 HC2 HD3 HD2 HD1
  go_wp2_with fail
  refine (CO.out S4 w5 pd HD5.out).mono ?_
  rintro e w6 ⟨S6, a, hS6, hs6, ho6, rfl, ha6, hna6, hj6⟩
  have hz5 := HB5.out.size
  have HB6 : Hid (Below w.heap.size w w6) := HB5.out.trans (ho6.below hz5 (fun k _ hk => HS4.out k hk))
  have HS6 : Hid (∀ k, S6 k → w.heap.size ≤ k) := fun k hk => by rcases hS6 k hk with h | h; exact HS4.out k h; omega
  have HD6 := Lib.hid hs6; have HJ6 := Lib.hid hj6; have HNA := Lib.hid hna6
  have HA6 : Hid (w.heap.size ≤ a) := by show _ ≤ _; omega
  clear hS6 hs6 ho6 hna6 hj6 ha6 HD5 HB5 HB4 HB3 HB2 HB1 HS4 HS3 HS2 HS1 HDis3 HDis4 hz1 hz2 hz3 hz4 hz5 CN CF CO CZ CR
  have CHo : Hid (∀ W, Jr 79 W a pd Jb → Calls Tryz.prog 18 #[.pointer (some ⟨a, 0, none⟩)] W fun e w' => e = .returned (.int .i64 52) ∧ W = w') := fun W h => home_any h (by decide)
  have CSq : Hid (∀ W, Jr 79 W a pd Jb → Calls Tryz.prog 17 #[.pointer (some ⟨a, 0, none⟩)] W fun e w' => e = .returned (.int .u64 1) ∧ W = w') := fun W h => seq_any h
  have CUs : Hid (∀ W, Jr 79 W a pd Jb → Calls Tryz.prog 20 #[.pointer (some ⟨a, 0, none⟩)] W fun e w' => e = .returned (.int .i64 0) ∧ W = w') := fun W h => used_any h
  go_wp2_with fail
  refine (CHo.out _ HJ6.out).mono ?_
  rintro e w7 ⟨rfl, rfl⟩
  go_wp2_with fail
  refine (CSq.out _ HJ6.out).mono ?_
  rintro e w7 ⟨rfl, rfl⟩
  go_wp2_with fail
  refine (CUs.out _ HJ6.out).mono ?_
  rintro e w7 ⟨rfl, rfl⟩
  obtain ⟨TA, hTA⟩ : ∃ T, textOf (fun _ => 97) = T := ⟨_, rfl⟩
  obtain ⟨TB, hTB⟩ : ∃ T, textOf (fun _ => 98) = T := ⟨_, rfl⟩
  have zA : TA.size = 256 := by rw [← hTA]; exact textOf_size _
  have zB : TB.size = 256 := by rw [← hTB]; exact textOf_size _
  have CA : Hid (∀ W, Calls Tryz.prog 28 #[.int .u8 97] W fun e w' => e = .returned (.string TA) ∧ Below W.heap.size W w') := fun W => by rw [← hTA]; exact full_any 97 W
  have CB : Hid (∀ W, Calls Tryz.prog 28 #[.int .u8 98] W fun e w' => e = .returned (.string TB) ∧ Below W.heap.size W w') := fun W => by rw [← hTB]; exact full_any 98 W
  clear hTA hTB
  go_wp2_with fail
  refine (CA.out _).mono ?_
  rintro e w8 ⟨rfl, hb8⟩
  have HB8 := Lib.hid hb8; clear hb8
  go_wp2_with fail
  refine (CB.out _).mono ?_
  rintro e w9 ⟨rfl, hb9⟩
  have HB9 := Lib.hid (HB8.out.trans (hb9.mono HB8.out.size)); clear hb9 HB8
  go_wp2_with fail
  obtain ⟨DC, m1, m2, m3, m4, m5⟩ := shown_math HSY.out HPN.out HFU.out zA zB
  have hba : Below w9.heap.size w9 (w9.alloc (.cells #[.int .i64 53, .string TA, .int .i64 59, .string TB] 73)) := (Below.refl _ _).alloc (Nat.le_refl _) _
  have hb10 : Below w6.heap.size w6 (w9.alloc (.cells #[.int .i64 53, .string TA, .int .i64 59, .string TB] 73)) := HB9.out.trans (hba.mono HB9.out.size)
  have hza := HJ6.out.lt
  have hz9 := HB9.out.size
  have CC := Lib.hid (commit_any (L := [(53, TA), (59, TB)]) (HJ6.out.below hb10) (HD6.out.below hb10) HNA.out (by rw [HSY.out.pre.len]; exact HSY.out.pre.good.ok) (by rw [HPN.out]; simp) (by simp) (fun x hx => by
      simp only [List.mem_cons, List.not_mem_nil, or_false] at hx
      rcases hx with rfl | rfl
      · rw [zA]; unfold maxLen; omega
      · rw [zB]; unfold maxLen; omega) (two_writes w9 53 59 TA TB) (fun g off n' c' hv hg => by cases hv; have := HD6.out.lt _ hg; omega) ⟨fun g off n' c' hv => by cases hv; simp, fun g off n' c' hv => by cases hv; omega⟩)
  rw [m1] at CC
  have HBa := Lib.hid hb10
  have HM2 := Lib.hid m2; have HM4 := Lib.hid m4; have HM5 := Lib.hid m5; have HM3 := Lib.hid m3
  clear hba hb10 m1 m2 m3 m4 m5 zB
  refine CC.out.mono ?_
  rintro e w10 ⟨rfl, hv10⟩
  obtain ⟨S10, hS10, hs10, hj10, ho10⟩ := hv10
  have hz6 := HB6.out.size
  have HB10 : Hid (Below w.heap.size w w10) := by
    have h1 := HB6.out.trans (HBa.out.mono hz6)
    exact h1.trans (ho10.below h1.size (fun k _ hk => by rcases hk with hk | hk; exact HS6.out k hk; rw [hk]; exact HA6.out))
  have HS10 : Hid (∀ k, S10 k → w.heap.size ≤ k) := fun k hk => by
    rcases hS10 k hk with h | h
    · exact HS6.out k h
    · have := HBa.out.size; omega
  have HD10 : Hid (Stands S10 w10 pd DC) := hs10
  have HJ10 : Hid (Jr 79 w10 a pd (Jb.grow 3)) := hj10
  have HN10 : Hid (¬ S10 a) := fun h => by
    rcases hS10 a h with h | h
    · exact HNA.out h
    · have := HBa.out.size; omega
  clear hS10 hs10 hj10 ho10 CC HBa HD6 HJ6 HB9 CHo CSq CUs
  simp only
  have CRd : Hid (∀ W, Below w10.heap.size w10 W → Calls Tryz.prog 29 #[.pointer (some ⟨pd, 0, none⟩), .int .i64 53] W fun e w' => e = .returned (.tuple #[.string TA, .int .i64 0]) ∧ Below W.heap.size W w') := fun W hW => by
    have := read_any 53 (by have := HM3.out; omega) (HD10.out.below hW)
    rw [HM2.out] at this; exact this
  have CSq : Hid (∀ W, Jr 79 W a pd (Jb.grow 3) → Calls Tryz.prog 17 #[.pointer (some ⟨a, 0, none⟩)] W fun e w' => e = .returned (.int .u64 2) ∧ W = w') := fun W h => seq_any h
  have CUs : Hid (∀ W, Jr 79 W a pd (Jb.grow 3) → Calls Tryz.prog 20 #[.pointer (some ⟨a, 0, none⟩)] W fun e w' => e = .returned (.int .i64 3) ∧ W = w') := fun W h => used_any h
  have ca := HJ10.out.c0
  go_wp2_with fail
  refine (CRd.out _ (Below.refl _ _)).mono ?_
  rintro e w11 ⟨rfl, hb11⟩
  have HB11 := Lib.hid hb11; clear hb11
  have HJ11 := Lib.hid (HJ10.out.below HB11.out)
  go_wp2_with fail
  refine (CSq.out _ HJ11.out).mono ?_
  rintro e w12 ⟨rfl, rfl⟩
  go_wp2_with fail
  refine (CUs.out _ HJ11.out).mono ?_
  rintro e w12 ⟨rfl, rfl⟩
  go_wp2_with fail
  refine (CA.out _).mono ?_
  rintro e w12 ⟨rfl, hb12⟩
  have HB12 := Lib.hid (HB11.out.trans (hb12.mono HB11.out.size)); clear hb12 HB11 HJ11
  have hTT : (TA.toList == TA.toList) = true := by simp
  go_wp2_with fail
  refine (CA.out _).mono ?_
  rintro e w13 ⟨rfl, hb13⟩
  have HB13 := Lib.hid (HB12.out.trans (hb13.mono HB12.out.size)); clear hb13 HB12
  go_wp2_with fail
  have hba : Below w13.heap.size w13 (w13.alloc (.cells #[.int .i64 51, .string TA] 73)) := (Below.refl _ _).alloc (Nat.le_refl _) _
  have hb14 : Below w10.heap.size w10 (w13.alloc (.cells #[.int .i64 51, .string TA] 73)) := HB13.out.trans (hba.mono HB13.out.size)
  have hz13 := HB13.out.size
  have hla := HJ10.out.lt
  have CC := Lib.hid (commit_any (L := [(51, TA)]) (HJ10.out.below hb14) (HD10.out.below hb14) HN10.out HM5.out (by have := HM3.out; omega) (by simp) (fun x hx => by
      simp only [List.mem_cons, List.not_mem_nil, or_false] at hx
      subst hx
      rw [zA]; unfold maxLen; omega) (one_write w13 51 TA) (fun g off n' c' hv hg => by cases hv; have := HD10.out.lt _ hg; omega) ⟨fun g off n' c' hv => by cases hv; simp, fun g off n' c' hv => by cases hv; omega⟩)
  rw [HM4.out] at CC
  have HBz : Hid (Below w.heap.size w (w13.alloc (.cells #[.int .i64 51, .string TA] 73))) := HB10.out.trans (hb14.mono HB10.out.size)
  clear hba hb14
  refine CC.out.mono ?_
  rintro e w15 ⟨rfl, hv15⟩
  obtain ⟨S15, _, _, _, ho15⟩ := hv15
  have HBf : Hid (Below w.heap.size w w15) := HBz.out.trans (ho15.below HBz.out.size (fun k _ hk => by rcases hk with hk | hk; exact HS10.out k hk; rw [hk]; exact HA6.out))
  clear ho15
  simp only
  go_wp2
  go_ret
  exact ⟨rfl, HBf.out⟩
end Go.Proofs.YtepfcaopboenpaaGreat
/- JournalRooms: a commit of an act's writes, in plain lists and in the statements' world. -/
namespace Go.Proofs.YtepfcaopboenpaaGreat
open Go.RowKit
open Fr (SlW OwnW)

theorem tA_le (x : Int) (i : Nat) (d : ByteArray) : (tA x i d).size ≤ 256 := by
  unfold tA; simp only [ByteArray.size_extract]; omega
theorem Act4.wrs_len (A : Act4) : A.wrs.length ≤ 52 := by unfold Act4.wrs; rw [wrK_len]; omega
theorem Act4.wrs_size (A : Act4) : ∀ x ∈ A.wrs, x.2.size ≤ maxLen := fun x hx => by
  unfold Act4.wrs wrK at hx
  simp only [List.mem_map, List.mem_range] at hx
  obtain ⟨i, _, rfl⟩ := hx
  have := tA_le (A.blks.getD i 0) i A.data
  unfold maxLen
  simp only
  omega

section
variable {w0 w w1 w2 : World} {wb a p : Nat} {S : Nat → Prop} {J : JS} {D : DevS} {L : List (Int × ByteArray)} {u : Value}
/-- Commit of writes that lie in memory of their own. -/
theorem Wd.commitO (h : Wd w0 w wb a p S J D) (hb : Below w.heap.size w w1) (ho : OwnW w.heap.size w1 u L) (hb2 : Below w1.heap.size w1 w2) (ok : J.Ok D.disk.length) (hp : D.pend.length ≤ 700000) (hl : L.length ≤ 1000) (hs : ∀ x ∈ L, x.2.size ≤ maxLen) :
    Calls Tryz.prog 27 #[.pointer (some ⟨a, 0, none⟩), u] w2 fun e w' => e = .returned (.int .i64 (J.commit D L).1) ∧ ∃ S', Wd w0 w' wb a p S' (J.commit D L).2.2 (J.commit D L).2.1 := by
  have h2 := (h.below hb).below hb2
  have ho2 := ho.below hb2
  have hla := h.jr.lt
  have hsz := hb.size
  have hsz2 := hb2.size
  have hg' : ∀ g off n c, u = .slice (some ⟨g, off, none⟩) n c → w.heap.size ≤ g ∧ g < w2.heap.size := fun g off n c hu => ho2.lt g (by rw [hu]; rfl)
  refine (commit_any h2.jr h2.dev h2.na ok hp hl hs ho2.sl (fun g off n c hu hS => ?_) ⟨fun g off n c hu => (hg' g off n c hu).2, fun g off n c hu => ?_⟩).mono fun e w' ⟨he, hj⟩ => ⟨he, h2.jleaves hj⟩
  · have := h.dev.lt _ hS
    have := (hg' g off n c hu).1
    omega
  · have := (hg' g off n c hu).1
    omega
end

/-- A journal that is well, without a fuse; not too much is pending. -/
structure Run (N m : Nat) (J : JS) (D : DevS) (H : Nat → ByteArray) : Prop where
  sync : ∃ F, Sync N 70 J D H F
  fuse : D.fused = false
  pend : D.pend.length ≤ m
section
variable {J : JS} {D : DevS} {L : List (Int × ByteArray)} {N m : Nat} {H : Nat → ByteArray}
theorem Run.ok (h : Run N m J D H) : J.Ok D.disk.length := by
  obtain ⟨F, h1⟩ := h.sync
  rw [h1.pre.len]; exact h1.pre.good.ok
theorem Run.step (h : Run N m J D H) (hN : N + 2 < 1000000) (hl : L.length ≤ 52) :
    ((J.commit D L).1 ≠ 0 ∧ (J.commit D L).2.1 = D ∧ (J.commit D L).2.2 = J ∧ J.chk 70 L ≠ 0) ∨
      ((J.commit D L).1 = 0 ∧ (J.commit D L).2.2.next = J.next + 1 ∧ ((J.commit D L).2.2.full = J.full + (1 + L.length) ∨ (J.commit D L).2.2.full = 1 + L.length) ∧ (J.commit D L).2.2.full ≤ 50 ∧ Run (N + 2) (m + 108) (J.commit D L).2.2 (J.commit D L).2.1 (put H L) ∧ J.chk 70 L = 0) := by
  obtain ⟨⟨F, h1⟩, h2, h3⟩ := h
  have hln := h1.pre.len
  by_cases hc : J.chk 70 L = 0
  · right
    obtain ⟨a1, ⟨F', a2⟩, a3, a4⟩ := commit_sure h1 hN hc h2
    have hlen := commit_len J D L
    have hr := a2.pre.good.room
    have hlg := a2.pre.good.lg
    refine ⟨a1, ?_, ?_, by omega, ⟨⟨_, a2⟩, a4, by omega⟩, hc⟩
    · rw [a3]
      have := h1.pre.good.bnd.2
      have hb := h1.pre.good.big
      split <;> (show (J.next + 1) % 18446744073709551616 = _; omega)
    · rw [a3]
      split
      · right; show 0 + (L.length + 1) = _; omega
      · left; show J.full + (L.length + 1) = _; omega
  · left
    have hb := commit_bad J D L (by rw [hln]; exact hc)
    rw [hb, hln]
    exact ⟨by show ((J.chk 70 L : Nat) : Int) ≠ 0; omega, rfl, rfl, hc⟩
end
end Go.Proofs.YtepfcaopboenpaaGreat
/- What is always so of the statements' journal, whatever acts are done with it, at whatever turn the power goes: in plain lists. -/
namespace Go.Proofs.YtepfcaopboenpaaGreat
open Go.RowKit

theorem own_keep {B : Nat} {e : TypeId} {k : Nat} {v : Value} {n : Nat} {xs : List Value} {w w' : World} (h : w.ownsRow B e k v n xs) (hb : ∀ g, v.ownBlock = some g → g < w.heap.size → w'.heap[g]? = w.heap[g]?) : w'.ownsRow B e k v n xs := by
  refine ⟨h.1, ?_⟩
  rcases h.2 with hn | ⟨g, cap, cur, rfl, hbg, hg, rest⟩
  · exact .inl hn
  · exact .inr ⟨g, cap, cur, rfl, hbg, by rw [hb g rfl (Array.getElem?_eq_some_iff.1 hg).1]; exact hg, rest⟩

section
variable {N M m n : Nat} {J : JS} {D : DevS} {L : List Wr} {H : Nat → ByteArray} {F : List (List Wr)}

theorem wr_dead (h : D.dead = true) (i : Int) (s : ByteArray) : D.wr i s = (4, D) := by
  have e : D.ck i = 4 := by unfold DevS.ck; rw [h]; rfl
  unfold DevS.wr; rw [e]; rfl
theorem stl_dead (h : D.dead = true) (x : Wr) (l : List Wr) : D.stl (x :: l) = (4, D) := by
  have e : D.wrs (x :: l) = (4, D) := by unfold DevS.wrs; rw [wr_dead h]; rfl
  unfold DevS.stl; rw [e]; rfl
theorem ckp_dead (J : JS) (h : D.dead = true) : J.ckp D = (4, D, J) := by
  unfold JS.ckp; simp only [stl_dead h]; rfl
theorem addF_dead (J : JS) (h : D.dead = true) (top : ByteArray) (ds : List ByteArray) : J.addF D top ds = (4, D, J) := by
  have e : D.stl (J.dataW ds) = (4, D) := by
    cases hd : J.dataW ds with
    | nil => have := JS.dataW_len (J := J) ds; rw [hd] at this; simp at this
    | cons x l => exact stl_dead h x l
  unfold JS.addF; simp only [e]; rfl
theorem commit_dead (h : D.dead = true) (hc : J.chk D.disk.length L = 0) : J.commit D L = (4, D, J) := by
  rw [commit_eq, if_neg (by simpa using hc)]
  split
  · rw [ckp_dead J h]; rfl
  · unfold comR; simp only [addF_dead J h]; rfl

theorem comR_ok {c : Int × DevS × JS} (h : c.2.2.Ok n) (hr : c.1 = 0 → c.2.2.full + (L.length + 1) ≤ c.2.2.log) : (comR J L c).2.2.Ok n := by
  unfold comR
  split
  · exact h
  · rename_i h0
    have h0' : c.1 = 0 := by simpa using h0
    have e : (c.2.2.addF c.2.1 (Fr.bs (Fr.topL J.next L)) (L.map (·.2))).2.2.Ok n := by
      by_cases h1 : (c.2.2.addF c.2.1 (Fr.bs (Fr.topL J.next L)) (L.map (·.2))).1 = 0
      · rw [JS.addF_good h1]; exact h.grow _ (by rw [List.length_map]; exact hr h0')
      · rw [JS.addF_err h1]; exact h
    split
    · exact e
    · exact e
theorem commit_ok (ok : J.Ok n) (hn : D.disk.length = n) : (J.commit D L).2.2.Ok n := by
  rw [commit_eq, hn]
  split
  · exact ok
  · rename_i hc
    have hc' : J.chk n L = 0 := by simpa using hc
    obtain ⟨l1, l2, _⟩ := (J.chk_ok n L).1 hc'
    have hl0 := ok.l0
    have hleft : J.left = J.log - J.full := rfl
    have hfu := ok.fu
    split
    · apply comR_ok
      · by_cases h1 : (J.ckp D).1 = 0
        · rw [JS.ckp_good h1]; exact ok.next'
        · rw [JS.ckp_err h1]; exact ok
      · intro h1
        rw [JS.ckp_good h1]
        show 0 + (L.length + 1) ≤ J.log
        omega
    · apply comR_ok
      · exact ok
      · intro _; show J.full + (L.length + 1) ≤ J.log; omega
theorem ckp_ok (ok : J.Ok n) : (J.ckp D).2.2.Ok n := by
  by_cases h1 : (J.ckp D).1 = 0
  · rw [JS.ckp_good h1]; exact ok.next'
  · rw [JS.ckp_err h1]; exact ok

/-- A journal and its device, whatever was done. -/
structure Well (N m : Nat) (J : JS) (D : DevS) : Prop where
  dok : D.Ok
  len : D.disk.length = 70
  ok : J.Ok 70
  safe : Safe N 70 D (fun _ => True)
  live : D.dead = false → ∃ H F, Sync N 70 J D H F
  pend : D.pend.length ≤ m
theorem Well.more {k : Nat} (h : Well N m J D) (hM : N ≤ M) (hb : M < 1000000) (hk : m ≤ k) : Well M k J D :=
  ⟨h.dok, h.len, h.ok, h.safe.more hM hb, fun hd => (by obtain ⟨H, F, hs⟩ := h.live hd; exact ⟨H, F, hs.more hM hb⟩), Nat.le_trans h.pend hk⟩
theorem Well.of_sync (h : Sync N 70 J D H F) (hp : D.pend.length ≤ m) : Well N m J D :=
  ⟨h.pre.dok, h.pre.len, h.pre.good.ok, h.pre.safe.mono (fun _ _ => trivial), fun _ => ⟨H, F, h⟩, hp⟩
theorem Well.of_gone {P : (Nat → ByteArray) → Prop} (h : Gone N 70 D P) (ok : J.Ok 70) (hp : D.pend.length ≤ m) : Well N m J D :=
  ⟨h.dok, h.len, ok, h.safe.mono (fun _ _ => trivial), fun hd => (by rw [h.dead] at hd; cases hd), hp⟩

theorem Well.ckp (h : Well N m J D) (hN : N + 2 < 1000000) : Well (N + 2) (m + 108) (J.ckp D).2.2 (J.ckp D).2.1 := by
  have hl := JS.ckp_len (J := J) (D := D)
  have hm := h.pend
  cases hd : D.dead with
  | true => rw [ckp_dead J hd]; exact h.more (by omega) hN (by omega)
  | false =>
    obtain ⟨H, F, hs⟩ := h.live hd
    rcases ckp_safe hs.pre (by omega) with ⟨_, a, _, _⟩ | ⟨_, a, b, c, d⟩
    · exact (Well.of_sync a (by omega : _ ≤ m + 108)).more (by omega) hN (Nat.le_refl _)
    · exact (Well.of_gone (P := (· = H)) ⟨a, b, c, d⟩ (ckp_ok h.ok) (by omega : _ ≤ m + 108)).more (by omega) hN (Nat.le_refl _)
theorem Well.commit (h : Well N m J D) (hN : N + 2 < 1000000) (hl : L.length ≤ 52) : Well (N + 2) (m + 108) (J.commit D L).2.2 (J.commit D L).2.1 := by
  have hlen := commit_len J D L
  have hm := h.pend
  by_cases hc : J.chk 70 L = 0
  · cases hd : D.dead with
    | true => rw [commit_dead hd (by rw [h.len]; exact hc)]; exact h.more (by omega) hN (by omega)
    | false =>
      obtain ⟨H, F, hs⟩ := h.live hd
      rcases commit_safe hs hN hc with ⟨_, F', a⟩ | ⟨_, a⟩
      · exact Well.of_sync a (by omega)
      · exact Well.of_gone a (commit_ok h.ok h.len) (by omega)
  · rw [commit_bad J D L (by rw [h.len]; exact hc)]; exact h.more (by omega) hN (by omega)
theorem Sync.setFuse (h : Sync N n J D H F) (k : Int) (hk : k ≤ 9223372036854775807) : Sync N n J (D.setFuse k) H F :=
  ⟨⟨h.pre.dok.setFuse k hk, h.pre.live, h.pre.len, h.pre.good, h.pre.pend, h.pre.view, h.pre.read⟩, h.zero, h.older⟩
theorem Well.fuse (h : Well N m J D) (k : Int) (hk : k ≤ 9223372036854775807) : Well N m J (D.setFuse k) :=
  ⟨h.dok.setFuse k hk, h.len, h.ok, h.safe, fun hd => (by obtain ⟨H, F, hs⟩ := h.live hd; exact ⟨H, F, hs.setFuse k hk⟩), h.pend⟩

theorem left_256 (kl : List Bool) (torn cut : Int) (k : Nat) : left kl torn (min (max cut 0) 256).toNat k ≤ 256 := left_le _ _ _ _ (by omega)
/-- A crash, and Open behind it. -/
theorem crash_open (ok : D.Ok) {P : (Nat → ByteArray) → Prop} (h : Safe N n D P) (hN : N + 1 < 1000000) (kl : List Bool) (torn cut : Int) :
    ∃ X J', P X ∧ (D.crash kl torn cut).opn.1 = 0 ∧ (D.crash kl torn cut).opn.2.2 = some J' ∧ Sync (N + 1) n J' (D.crash kl torn cut).opn.2.1 X [] ∧ (D.crash kl torn cut).opn.2.1.pend = [] ∧ (D.crash kl torn cut).opn.2.1.fused = false ∧ J'.full = 0 := by
  obtain ⟨X, J, F, h1, h2⟩ := h (left kl torn (min (max cut 0) 256).toNat) (left_256 kl torn cut)
  obtain ⟨a, b, c, d⟩ := open_sure (D := D.crash kl torn cut) h2 hN (ok.crash kl torn cut) rfl rfl rfl
  exact ⟨X, J.next', h1, a, b, c, d, (nf_opn (D := D.crash kl torn cut) rfl).1, rfl⟩
theorem Well.crash (h : Well N m J D) (hN : N + 2 < 1000000) (kl : List Bool) (torn cut : Int) : ∃ D' J', (D.crash kl torn cut).opn = (0, D', some J') ∧ Well (N + 2) (m + 108) J' D' := by
  obtain ⟨X, J', _, a, b, c, d, _, _⟩ := crash_open h.dok h.safe (by omega) kl torn cut
  exact ⟨_, J', Prod.ext a (Prod.ext rfl b), (Well.of_sync (m := m + 108) c (by rw [d]; simp)).more (by omega) hN (Nat.le_refl _)⟩
/-- A journal that was just opened is opened again. -/
theorem open_again (h : Sync N n J D H F) (hN : N + 1 < 1000000) (hp : D.pend = []) (hf : D.fused = false) :
    D.opn.1 = 0 ∧ D.opn.2.2 = some J.next' ∧ Sync (N + 1) n J.next' D.opn.2.1 H [] ∧ D.opn.2.1.pend = [] := by
  have hr : Rec N n D.disk H J F := ⟨h.pre.len, h.pre.dok.whole, h.pre.good, h.pre.view⟩
  exact open_sure hr hN h.pre.dok h.pre.live hp hf

/-- Home as a list. -/
def hl (H : Nat → ByteArray) : List ByteArray := (List.range 18).map fun i => H (52 + i)
theorem hl_len (H : Nat → ByteArray) : (hl H).length = 18 := by simp [hl]
theorem put_snoc (H : Nat → ByteArray) (L : List Wr) (x : Wr) (b : Nat) : put H (L ++ [x]) b = if x.1.toNat = b then x.2 else put H L b := by
  unfold put
  rw [show natW (L ++ [x]) = natW L ++ [(x.1.toNat, x.2)] from by simp [natW], vN_append]
  unfold vN
  by_cases h : x.1.toNat = b
  · simp [h]
  · simp [h]
theorem hl_put (H : Nat → ByteArray) (L : List Wr) (x : Wr) (k : Nat) (hx : x.1 = ((52 + k : Nat) : Int)) : hl (put H (L ++ [x])) = (hl (put H L)).set k x.2 := by
  apply List.ext_getElem
  · simp [hl]
  · intro i h1 h2
    rw [List.getElem_set]
    simp only [hl, List.getElem_map, List.getElem_range]
    rw [put_snoc, hx]
    have e : ((52 + k : Nat) : Int).toNat = 52 + k := rfl
    rw [e]
    by_cases h : k = i
    · rw [if_pos (by omega), if_pos h]
    · rw [if_neg (by omega), if_neg h]
theorem hl_put_nil (H : Nat → ByteArray) : hl (put H []) = hl H := rfl
end
end Go.Proofs.YtepfcaopboenpaaGreat
/- What does answers: an act on the statements' world. -/
namespace Go.Proofs.YtepfcaopboenpaaGreat
open Go.RowKit
open Fr (SlW OwnW)

/-- An act: its error, the device, the journal. -/
def doesJ (A : Act4) (J : JS) (D : DevS) : Int × DevS × JS :=
  if pickI A.op 9 = 6 then J.ckp D else if pickI A.op 9 = 7 then (0, D.setFuse (pickI A.n 60), J) else
  if pickI A.op 9 = 8 then ((D.crash A.keep A.at_ A.n).opn.1, (D.crash A.keep A.at_ A.n).opn.2.1, ((D.crash A.keep A.at_ A.n).opn.2.2).getD J) else J.commit D A.wrs
theorem Well.does {N m : Nat} {J : JS} {D : DevS} (h : Well N m J D) (hN : N + 2 < 1000000) (A : Act4) : Well (N + 2) (m + 108) (doesJ A J D).2.2 (doesJ A J D).2.1 := by
  unfold doesJ
  split
  · exact h.ckp hN
  · split
    · have := pickI_lt A.n 60 (by omega)
      exact (h.fuse _ (by omega)).more (by omega) hN (by omega)
    · split
      · obtain ⟨D', J', e, hw⟩ := h.crash hN A.keep A.at_ A.n
        rw [e]; exact hw
      · exact h.commit hN A.wrs_len

section
variable {w0 w w' : World} {wb a p : Nat} {S : Nat → Prop} {J J' : JS} {D D' : DevS}
/-- Another journal of the same device is taken up. -/
theorem Wd.take (h : Wd w0 w wb a p S J D) {S' : Nat → Prop} {a' : Nat} (hS : ∀ k, S' k → S k ∨ w.heap.size ≤ k) (hs : Stands S' w' p D') (ho : Only S w w') (ha : w.heap.size ≤ a') (hn : ¬ S' a') (hj : Jr 79 w' a' p J') :
    Wd w0 (w'.setCell ⟨wb, 1, none⟩ (.pointer (some ⟨a', 0, none⟩))) wb a' p S' J' D' := by
  have hlw := h.lt
  have hsz := h.bel.size
  have hnw : ¬ S' wb := fun hk => by
    rcases hS wb hk with h1 | h1
    · exact h.nw h1
    · omega
  have hwh : w'.heap[wb]? = some (.cells #[.pointer (some ⟨p, 0, none⟩), .pointer (some ⟨a, 0, none⟩)] 52 (0, 0)) := by rw [ho.block wb hlw h.nw]; exact h.wh
  have ho2 : Only (fun k => k = wb) w' (w'.setCell ⟨wb, 1, none⟩ (.pointer (some ⟨a', 0, none⟩))) := (Only.refl (fun k => k = wb) w').setCell (p := ⟨wb, 1, none⟩) (fun _ => rfl) _
  refine ⟨fun k hk => ?_, hs.kept ho2 (fun k hk e => hnw (e ▸ hk)), hj.only ho2 (by omega), heap_setCell_at (i := 1) hwh _, hn, hnw, by omega, by omega, h.lw, ?_⟩
  · rcases hS k hk with h1 | h1
    · exact h.own k h1
    · omega
  · exact (h.bel.trans (ho.below hsz (fun k _ hk => h.own k hk))).setCell (p := ⟨wb, 1, none⟩) h.lw _
theorem Wd.f1 (h : Wd w0 w wb a p S J D) : w.frozen? ⟨wb, 1, none⟩ = false := free_at h.wh 1

theorem held_act {A : Act4} {b : Nat} {W W' : World} (hb : Below W.heap.size W W') (hl : b < W.heap.size) (h : W.heap[b]? = some (.cells #[.int .i64 A.op, .int .i64 A.n, .int .i64 A.at_, .slice A.kao A.keep.length A.kcap, .slice A.bao A.blks.length A.bcap, .string A.data] 40 (0, 0))) :
    W'.heap[b]? = some (.cells #[.int .i64 A.op, .int .i64 A.n, .int .i64 A.at_, .slice A.kao A.keep.length A.kcap, .slice A.bao A.blks.length A.bcap, .string A.data] 40 (0, 0)) := by
  rw [hb.block b hl]; exact h
/-- A device behind whatever changes it. -/
theorem Wd.fuse (h : Wd w0 w wb a p S J D) (n : Int) (hn : n ≤ 9223372036854775807) : Calls Tryz.prog 38 #[.pointer (some ⟨p, 0, none⟩), .int .i64 n] w fun e w' => e = .returned (.tuple #[]) ∧ ∃ S', Wd w0 w' wb a p S' J (D.setFuse n) :=
  (fuse_any n hn h.dev).mono fun e w' ⟨he, h1, h2⟩ => ⟨he, h.leaves (.mk h1 h2)⟩
/-- An act's bools. -/
def KeepIn (w0 : World) (A : Act4) : Prop := A.keep = [] ∨ ∃ g off, A.kao = some ⟨g, off, none⟩ ∧ g < w0.heap.size ∧ ∀ i (h : i < A.keep.length), w0.cell? ⟨g, off + i, none⟩ = some (.bool A.keep[i])
theorem Wd.crash (h : Wd w0 w wb a p S J D) (A : Act4) (hk : KeepIn w0 A) (hl : A.keep.length ≤ 200) (hp : D.pend.length ≤ 600000) :
    Calls Tryz.prog 39 #[.pointer (some ⟨p, 0, none⟩), .slice A.kao A.keep.length A.kcap, .int .i64 A.at_, .int .i64 A.n] w fun e w' => e = .returned (.tuple #[]) ∧ ∃ S', Wd w0 w' wb a p S' J (D.crash A.keep A.at_ A.n) := by
  refine (crash_any A.keep A.at_ A.n _ (by omega) (by omega) h.dev ⟨_, _, rfl, ?_⟩).mono fun e w' ⟨he, h1, h2⟩ => ⟨he, h.leaves (.mk h1 h2)⟩
  rcases hk with hk | ⟨g, off, h1, h2, h3⟩
  · exact .inl hk
  · exact .inr ⟨g, off, h1, fun hs => by have := h.own g hs; omega, fun i hi => (h.bel.cell (p := ⟨g, off + i, none⟩) h2).trans (h3 i hi)⟩
theorem Wd.opn (h : Wd w0 w wb a p S J D) (hp : D.pend.length ≤ 600000) (hr : D.opn = (0, D', some J')) :
    Calls Tryz.prog 26 #[.pointer (some ⟨p, 0, none⟩)] w fun e w' => ∃ a', e = .returned (.tuple #[.pointer (some ⟨a', 0, none⟩), .int .i64 0]) ∧ w'.frozen? ⟨wb, 1, none⟩ = false ∧ w'.cell? ⟨wb, 1, none⟩ = some (.pointer (some ⟨a, 0, none⟩)) ∧ ∃ S', Wd w0 (w'.setCell ⟨wb, 1, none⟩ (.pointer (some ⟨a', 0, none⟩))) wb a' p S' J' D' := by
  refine (open_any h.dev hp).mono fun e w' hO => ?_
  unfold Opened at hO
  rw [hr] at hO
  obtain ⟨S', h1, h2, h3, a', h4, h5, h6, h7⟩ := hO
  have hwh : w'.heap[wb]? = some (.cells #[.pointer (some ⟨p, 0, none⟩), .pointer (some ⟨a, 0, none⟩)] 52 (0, 0)) := by rw [h3.block wb h.lt h.nw]; exact h.wh
  exact ⟨a', h4, free_at hwh 1, by rw [cell_at hwh]; rfl, S', h.take h1 h2 h3 h5 h6 h7⟩

/-- Commit of writes that lie in memory of their own; what else is there stays. -/
theorem Wd.commitX {W : World} {u : Value} {L : List (Int × ByteArray)} (h : Wd w0 w wb a p S J D) (hb : Below w.heap.size w W) (ho : OwnW w.heap.size W u L) (ok : J.Ok D.disk.length) (hp : D.pend.length ≤ 700000) (hl : L.length ≤ 1000) (hs : ∀ x ∈ L, x.2.size ≤ maxLen) :
    Calls Tryz.prog 27 #[.pointer (some ⟨a, 0, none⟩), u] W fun e w' => e = .returned (.int .i64 (J.commit D L).1) ∧ (∃ S', Wd w0 w' wb a p S' (J.commit D L).2.2 (J.commit D L).2.1) ∧ ∀ b, b < W.heap.size → ¬ S b → b ≠ a → w'.heap[b]? = W.heap[b]? := by
  have h2 := h.below hb
  have hla := h.jr.lt
  have hg' : ∀ g off n c, u = .slice (some ⟨g, off, none⟩) n c → w.heap.size ≤ g ∧ g < W.heap.size := fun g off n c hu => ho.lt g (by rw [hu]; rfl)
  refine (commit_any h2.jr h2.dev h2.na ok hp hl hs ho.sl (fun g off n c hu hS => ?_) ⟨fun g off n c hu => (hg' g off n c hu).2, fun g off n c hu => ?_⟩).mono fun e w' ⟨he, hj⟩ => ⟨he, h2.jleaves hj, ?_⟩
  · have := h.dev.lt _ hS
    have := (hg' g off n c hu).1
    omega
  · have := (hg' g off n c hu).1
    omega
  · obtain ⟨S', _, _, _, hon⟩ := hj
    exact fun b h1 h2 h3 => hon.block b h1 (fun hk => by rcases hk with hk | hk; exact h2 hk; exact h3 hk)
/-- What does reads of the world and of the act. -/
abbrev HeldA (wb a p b : Nat) (A : Act4) (W : World) : Prop := W.cell? ⟨wb, 0, none⟩ = some (.pointer (some ⟨p, 0, none⟩)) ∧ W.cell? ⟨wb, 1, none⟩ = some (.pointer (some ⟨a, 0, none⟩)) ∧ W.cell? ⟨b, 0, none⟩ = some (.int .i64 A.op) ∧ W.cell? ⟨b, 1, none⟩ = some (.int .i64 A.n) ∧ W.cell? ⟨b, 2, none⟩ = some (.int .i64 A.at_) ∧ W.cell? ⟨b, 3, none⟩ = some (.slice A.kao A.keep.length A.kcap) ∧ W.cell? ⟨b, 4, none⟩ = some (.slice A.bao A.blks.length A.bcap) ∧ W.cell? ⟨b, 5, none⟩ = some (.string A.data)
theorem heldA {A : Act4} {b : Nat} (h : Wd w0 w wb a p S J D) (hx : w.heap[b]? = some (.cells #[.int .i64 A.op, .int .i64 A.n, .int .i64 A.at_, .slice A.kao A.keep.length A.kcap, .slice A.bao A.blks.length A.bcap, .string A.data] 40 (0, 0))) : HeldA wb a p b A w :=
  ⟨h.c0, h.c1, by rw [cell_at hx]; rfl, by rw [cell_at hx]; rfl, by rw [cell_at hx]; rfl, by rw [cell_at hx]; rfl, by rw [cell_at hx]; rfl, by rw [cell_at hx]; rfl⟩

set_option maxRecDepth 100000 in
set_option maxHeartbeats 4000000 in
theorem does4_any (h : Wd w0 w wb a p S J D) (A : Act4) (hA : A.Ok w0) (hf : A.Fits) {N m : Nat} (hw : Well N m J D) (hN : N + 2 < 1000000) (hm : m ≤ 500000) :
    Calls Tryz.prog 10 #[.pointer (some ⟨wb, 0, none⟩), .agg #[.int .i64 A.op, .int .i64 A.n, .int .i64 A.at_, .slice A.kao A.keep.length A.kcap, .slice A.bao A.blks.length A.bcap, .string A.data]] w fun e w' => e = .returned (.int .i64 (doesJ A J D).1) ∧ ∃ a' S', Wd w0 w' wb a' p S' (doesJ A J D).2.2 (doesJ A J D).2.1 := by
  obtain ⟨X, hX⟩ : ∃ X, w.alloc (.cells #[.int .i64 A.op, .int .i64 A.n, .int .i64 A.at_, .slice A.kao A.keep.length A.kcap, .slice A.bao A.blks.length A.bcap, .string A.data] 40) = X := ⟨_, rfl⟩
  have hbX : Below w.heap.size w X := by rw [← hX]; exact (Below.refl _ _).alloc (Nat.le_refl _) _
  have hxc : X.heap[w.heap.size]? = some (.cells #[.int .i64 A.op, .int .i64 A.n, .int .i64 A.at_, .slice A.kao A.keep.length A.kcap, .slice A.bao A.blks.length A.bcap, .string A.data] 40 (0, 0)) := by rw [← hX, heap_alloc_new]
  have hWX := h.below hbX
  have hbs : ¬ S w.heap.size := fun hk => by have := h.dev.lt _ hk; omega
  have hba : w.heap.size ≠ a := by have := h.jr.lt; omega
  have hbl : w.heap.size < X.heap.size := (Array.getElem?_eq_some_iff.1 hxc).1
  have HWX := Lib.hid hWX
  have HX := Lib.hid hX
  clear hX h hbX
  obtain ⟨b, hb⟩ : ∃ b, w.heap.size = b := ⟨_, rfl⟩
  rw [hb] at hxc hbs hba hbl
  have HE := Lib.hid hb
  have HXC := Lib.hid hxc
  have HBS := Lib.hid hbs; have HBA := Lib.hid hba
  clear hb hxc hbs hba
  have hop := pickI_lt A.op 9 (by omega)
  have HP : Hid (∀ W, Calls Tryz.prog 11 #[.int .i64 A.op, .int .i64 9] W fun e w' => e = .returned (.int .i64 (pickI A.op 9)) ∧ W = w') := fun W => pick_any A.op 9 W hA.op0 (by omega)
  have HPn : Hid (∀ W, Calls Tryz.prog 11 #[.int .i64 A.n, .int .i64 60] W fun e w' => e = .returned (.int .i64 (pickI A.n 60)) ∧ W = w') := fun W => pick_any A.n 60 W hA.n0 (by omega)
  have hdk : D.disk.length = 70 := hw.len
  have HOK : Hid (J.Ok D.disk.length) := by show J.Ok _; rw [hdk]; exact hw.ok
  have HPD : Hid (D.pend.length ≤ 500000) := Nat.le_trans hw.pend hm
  have HKI : Hid (KeepIn w0 A) := hA.keeps
  have HKL : Hid (A.keep.length ≤ 200) := hf.2.1
  have HWr : Hid (∀ W, Below X.heap.size X W → Calls Tryz.prog 16 #[.agg #[.int .i64 A.op, .int .i64 A.n, .int .i64 A.at_, .slice A.kao A.keep.length A.kcap, .slice A.bao A.blks.length A.bcap, .string A.data]] W fun e w' => ∃ u, e = .returned u ∧ OwnW W.heap.size w' u A.wrs ∧ Below W.heap.size W w') := fun W hW =>
    writes_any A W hf.1 hf.2.2 hA.bin (hA.blks.below (hWX.bel.trans (hW.mono hWX.bel.size)))
  obtain ⟨DC, JC, hcr, _⟩ := hw.crash hN A.keep A.at_ A.n
  have HCR := Lib.hid hcr
  obtain ⟨o, ho⟩ : ∃ o, pickI A.op 9 = o := ⟨_, rfl⟩
  have HDo : Hid (doesJ A J D = if o = 6 then J.ckp D else if o = 7 then (0, D.setFuse (pickI A.n 60), J) else if o = 8 then (0, DC, JC) else J.commit D A.wrs) := by
    show doesJ A J D = _
    unfold doesJ
    rw [ho, hcr]
    rfl
  rw [ho] at HP hop
  clear ho hcr hw hdk hA hf hWX hN hm
  by_cases o6 : o = 6
  · subst o6
    have e : doesJ A J D = J.ckp D := by rw [HDo.out, if_pos rfl]
    rw [e]
    have C := Lib.hid (ckp_any HWX.out.jr HWX.out.dev HWX.out.na HOK.out (by have := HPD.out; omega))
    clear e HDo
    obtain ⟨c0, c1, k0, k1, k2, k3, k4, k5⟩ := heldA HWX.out HXC.out
    go_enter Tryz.func10, Tryz.ntmps10
    go_wp2_with fail
    rw [HX.out, HE.out]
    refine (HP.out _).mono ?_
    rintro e w1' ⟨rfl, rfl⟩
    go_wp2_with fail
    refine C.out.mono ?_
    rintro e w2 ⟨rfl, hj⟩
    have HJ := Lib.hid hj; clear hj
    go_wp2
    go_ret
    obtain ⟨S', hh⟩ := HWX.out.jleaves HJ.out
    exact ⟨rfl, a, S', hh⟩
  · by_cases o7 : o = 7
    · subst o7
      have e : doesJ A J D = (0, D.setFuse (pickI A.n 60), J) := by rw [HDo.out, if_neg (by omega), if_pos rfl]
      rw [e]
      have hq := pickI_lt A.n 60 (by omega)
      generalize pickI A.n 60 = q at *
      have C : Hid (Calls Tryz.prog 38 #[.pointer (some ⟨p, 0, none⟩), .int .i64 q] X.drew fun e w' => e = .returned (.tuple #[]) ∧ (∃ S', Wd w0 w' wb a p S' J (D.setFuse q)) ∧ HeldA wb a p b A w') := by
        have hd : Below X.heap.size X X.drew := (Below.refl _ _).drew
        have h2 := HWX.out.below hd
        refine (fuse_any q (by omega) h2.dev).mono fun e w' ⟨he, h3, h4⟩ => ?_
        obtain ⟨S', h5⟩ := h2.leaves (.mk h3 h4)
        exact ⟨he, ⟨S', h5⟩, heldA h5 (by rw [h4.block b hbl HBS.out]; exact HXC.out)⟩
      clear e HDo o6
      obtain ⟨c0, c1, k0, k1, k2, k3, k4, k5⟩ := heldA HWX.out HXC.out
      go_enter Tryz.func10, Tryz.ntmps10
      go_wp2_with fail
      rw [HX.out, HE.out]
      refine (HP.out _).mono ?_
      rintro e w1' ⟨rfl, rfl⟩
      go_wp2_with fail
      go_region_held3 (HeldA wb a p b A)
        (first | exact ⟨c0, c1, k0, k1, k2, k3, k4, k5⟩ | assumption)
        (first | (go_at_call 11; refine (HPn.out _).mono ?_; rintro e w2 ⟨rfl, rfl⟩) | (go_at_call 38; refine C.out.mono ?_; rintro e w3 ⟨rfl, hw3, hh3⟩))
      all_goals
        obtain ⟨S3, hw3⟩ := hw3
        have HW3 := Lib.hid hw3
        clear hw3
        go_wp2
        go_ret
        exact ⟨rfl, a, S3, HW3.out⟩
    · by_cases o8 : o = 8
      · subst o8
        have e : doesJ A J D = (0, DC, JC) := by rw [HDo.out, if_neg (by omega), if_neg (by omega), if_pos rfl]
        rw [e]
        have C : Hid (Calls Tryz.prog 39 #[.pointer (some ⟨p, 0, none⟩), .slice A.kao A.keep.length A.kcap, .int .i64 A.at_, .int .i64 A.n] X.drew fun e w' => e = .returned (.tuple #[]) ∧ (∃ S', Wd w0 w' wb a p S' J (D.crash A.keep A.at_ A.n)) ∧ HeldA wb a p b A w') := by
          have hd : Below X.heap.size X X.drew := (Below.refl _ _).drew
          have h2 := HWX.out.below hd
          refine (crash_any A.keep A.at_ A.n _ (by have := HPD.out; omega) (by have := HKL.out; omega) h2.dev ⟨_, _, rfl, ?_⟩).mono fun e w' ⟨he, h3, h4⟩ => ?_
          · rcases HKI.out with hk | ⟨g, off, i1, i2, i3⟩
            · exact .inl hk
            · exact .inr ⟨g, off, i1, fun hs => by have := h2.own g hs; omega, fun i hi => (h2.bel.cell (p := ⟨g, off + i, none⟩) i2).trans (i3 i hi)⟩
          · obtain ⟨S', h5⟩ := h2.leaves (.mk h3 h4)
            exact ⟨he, ⟨S', h5⟩, heldA h5 (by rw [h4.block b hbl HBS.out]; exact HXC.out)⟩
        clear e HDo o6 o7
        obtain ⟨c0, c1, k0, k1, k2, k3, k4, k5⟩ := heldA HWX.out HXC.out
        go_enter Tryz.func10, Tryz.ntmps10
        go_wp2_with fail
        rw [HX.out, HE.out]
        refine (HP.out _).mono ?_
        rintro e w1' ⟨rfl, rfl⟩
        go_wp2_with fail
        go_region_held3 (HeldA wb a p b A)
          (first | exact ⟨c0, c1, k0, k1, k2, k3, k4, k5⟩ | assumption)
          (first | (go_at_call 39; refine C.out.mono ?_; rintro e w2 ⟨rfl, hw2, hh2⟩))
        obtain ⟨S2, hw2⟩ := hw2
        clear hh2
        have CO := Lib.hid (hw2.opn (by simp [DevS.crash]) HCR.out)
        have c0' := hw2.c0
        clear hw2 C c0 c1 k0 k1 k2 k3 k4 k5
        go_wp2_with fail
        refine CO.out.mono ?_
        rintro e w3 ⟨a', rfl, hf3, hc3, S3, hw3⟩
        have HW3 := Lib.hid hw3
        clear hw3 CO c0'
        go_wp2
        go_ret
        exact ⟨rfl, a', S3, HW3.out⟩
      · have e : doesJ A J D = J.commit D A.wrs := by rw [HDo.out, if_neg o6, if_neg o7, if_neg o8]
        rw [e]
        have b6 : (o == 6) = false := by simpa using o6
        have b7 : (o == 7) = false := by simpa using o7
        have b8 : (o == 8) = false := by simpa using o8
        have CC : Hid (∀ u W, Below X.heap.size X W → OwnW X.heap.size W u A.wrs → Calls Tryz.prog 27 #[.pointer (some ⟨a, 0, none⟩), u] W fun e w' => e = .returned (.int .i64 (J.commit D A.wrs).1) ∧ (∃ S', Wd w0 w' wb a p S' (J.commit D A.wrs).2.2 (J.commit D A.wrs).2.1) ∧ HeldA wb a p b A w') := fun u W hW hO =>
          (HWX.out.commitX hW hO HOK.out (by have := HPD.out; omega) (by have := A.wrs_len; omega) A.wrs_size).mono fun e w' ⟨he, ⟨S', hw'⟩, hk⟩ => ⟨he, ⟨S', hw'⟩, heldA hw' (by rw [hk b (Nat.lt_of_lt_of_le hbl hW.size) HBS.out HBA.out, hW.block b hbl]; exact HXC.out)⟩
        generalize J.commit D A.wrs = R at *
        obtain ⟨M, hM⟩ : ∃ M, A.wrs = M := ⟨_, rfl⟩
        rw [hM] at CC HWr
        have HKB : Hid (∀ W, Below X.heap.size X W → HeldA wb a p b A W) := fun W hW => heldA (HWX.out.below hW) (by rw [hW.block b hbl]; exact HXC.out)
        clear e HDo o6 o7 o8 hM
        obtain ⟨c0, c1, k0, k1, k2, k3, k4, k5⟩ := heldA HWX.out HXC.out
        go_enter Tryz.func10, Tryz.ntmps10
        go_wp2_with fail
        rw [HX.out, HE.out]
        refine (HP.out _).mono ?_
        rintro e w1' ⟨rfl, rfl⟩
        go_wp2_with fail
        go_region_held3 (HeldA wb a p b A)
          (first | exact ⟨c0, c1, k0, k1, k2, k3, k4, k5⟩ | assumption)
          (first
            | (go_at_call 16; refine (HWr.out _ ((Below.refl _ _).drew)).mono ?_; rintro e w2 ⟨u, rfl, ho2, hb2'⟩; have hb2 : Below X.heap.size X w2 := Fr.below_predrew hb2'; have hh2 := HKB.out _ hb2; have CC2 := Lib.hid (CC.out u w2 hb2 ho2); clear hb2' ho2)
            | (go_at_call 27; refine CC2.out.mono ?_; rintro e w3 ⟨rfl, hw3, hh3⟩))
        all_goals
          obtain ⟨S3, hw3⟩ := hw3
          have HW3 := Lib.hid hw3
          clear hw3
          go_wp2
          go_ret
          exact ⟨rfl, a, S3, HW3.out⟩
end
end Go.Proofs.YtepfcaopboenpaaGreat
/- What does answers, other blocks standing by: an act on the statements' world that leaves the blocks T as they were in wB. -/
namespace Go.Proofs.YtepfcaopboenpaaGreat
open Go.RowKit
open Fr (SlW OwnW)

/-- The statements' world; the blocks T are none of its own, and as they were in wB. -/
structure WdT (T : Nat → Prop) (wB w0 w : World) (wb a p : Nat) (S : Nat → Prop) (J : JS) (D : DevS) : Prop where
  wd : Wd w0 w wb a p S J D
  on : Only (fun k => ¬ T k) wB w
  ts : ∀ k, T k → ¬ S k ∧ k ≠ a ∧ k ≠ wb
  tb : ∀ k, T k → k < wB.heap.size
section
variable {T : Nat → Prop} {wB w0 w w' : World} {wb a p : Nat} {S : Nat → Prop} {J J' : JS} {D D' : DevS}
theorem WdT.own (h : WdT T wB w0 w wb a p S J D) : ∀ k, S k → w0.heap.size ≤ k := h.wd.own
theorem WdT.dev (h : WdT T wB w0 w wb a p S J D) : Stands S w p D := h.wd.dev
theorem WdT.jr (h : WdT T wB w0 w wb a p S J D) : Jr 79 w a p J := h.wd.jr
theorem WdT.na (h : WdT T wB w0 w wb a p S J D) : ¬ S a := h.wd.na
theorem WdT.nw (h : WdT T wB w0 w wb a p S J D) : ¬ S wb := h.wd.nw
theorem WdT.bel (h : WdT T wB w0 w wb a p S J D) : Below w0.heap.size w0 w := h.wd.bel
theorem WdT.c0 (h : WdT T wB w0 w wb a p S J D) : w.cell? ⟨wb, 0, none⟩ = some (.pointer (some ⟨p, 0, none⟩)) := h.wd.c0
theorem WdT.c1 (h : WdT T wB w0 w wb a p S J D) : w.cell? ⟨wb, 1, none⟩ = some (.pointer (some ⟨a, 0, none⟩)) := h.wd.c1
theorem WdT.below (h : WdT T wB w0 w wb a p S J D) (hb : Below w.heap.size w w') : WdT T wB w0 w' wb a p S J D :=
  ⟨h.wd.below hb, h.on.trans (Only.of_below (fun _ => False) hb (Nat.le_refl _)) (fun _ _ f => f.elim), h.ts, h.tb⟩
theorem WdT.jleaves (h : WdT T wB w0 w wb a p S J D) (hl : JLeaves 79 S w w' a p D' J') : ∃ S', WdT T wB w0 w' wb a p S' J' D' := by
  obtain ⟨S', hS', hs, hj, ho⟩ := hl
  have hla := h.wd.jr.lt
  have hlw := h.wd.lt
  have hsz := h.wd.bel.size
  have hon := h.on.size
  refine ⟨S', ⟨fun k hk => ?_, hs, hj, ?_, fun hk => ?_, fun hk => ?_, h.wd.aw, h.wd.la, h.wd.lw, ?_⟩, h.on.trans ho (fun i hi hs ht => ?_), fun k hk => ⟨fun hs => ?_, (h.ts k hk).2⟩, h.tb⟩
  · rcases hS' k hk with h1 | h1
    · exact h.wd.own k h1
    · omega
  · rw [ho.block wb hlw (fun hk => by rcases hk with hk | hk; exact h.wd.nw hk; exact h.wd.aw hk.symm)]; exact h.wd.wh
  · rcases hS' a hk with h1 | h1
    · exact h.wd.na h1
    · omega
  · rcases hS' wb hk with h1 | h1
    · exact h.wd.nw h1
    · omega
  · exact h.wd.bel.trans (ho.below hsz (fun k _ hk => by rcases hk with hk | hk; exact h.wd.own k hk; rw [hk]; exact h.wd.la))
  · rcases hs with hs | hs
    · exact (h.ts i ht).1 hs
    · exact (h.ts i ht).2.1 hs
  · rcases hS' k hs with h1 | h1
    · exact (h.ts k hk).1 h1
    · have := h.tb k hk; omega
theorem WdT.leaves (h : WdT T wB w0 w wb a p S J D) (hl : Leaves S w w' p D') : ∃ S', WdT T wB w0 w' wb a p S' J D' := h.jleaves (JLeaves.of hl h.wd.jr h.wd.na)
theorem WdT.take (h : WdT T wB w0 w wb a p S J D) {S' : Nat → Prop} {a' : Nat} (hS : ∀ k, S' k → S k ∨ w.heap.size ≤ k) (hs : Stands S' w' p D') (ho : Only S w w') (ha : w.heap.size ≤ a') (hn : ¬ S' a') (hj : Jr 79 w' a' p J') :
    WdT T wB w0 (w'.setCell ⟨wb, 1, none⟩ (.pointer (some ⟨a', 0, none⟩))) wb a' p S' J' D' := by
  have hon := h.on.size
  have ho2 : Only (fun k => k = wb) w' (w'.setCell ⟨wb, 1, none⟩ (.pointer (some ⟨a', 0, none⟩))) := (Only.refl (fun k => k = wb) w').setCell (p := ⟨wb, 1, none⟩) (fun _ => rfl) _
  refine ⟨h.wd.take hS hs ho ha hn hj, (h.on.trans ho (fun i _ hs ht => (h.ts i ht).1 hs)).trans ho2 (fun i _ hi ht => (h.ts i ht).2.2 hi), fun k hk => ⟨fun hs => ?_, fun e => ?_, (h.ts k hk).2.2⟩, h.tb⟩
  · rcases hS k hs with h1 | h1
    · exact (h.ts k hk).1 h1
    · have := h.tb k hk; omega
  · have := h.tb k hk; omega
theorem WdT.opn (h : WdT T wB w0 w wb a p S J D) (hp : D.pend.length ≤ 600000) (hr : D.opn = (0, D', some J')) :
    Calls Tryz.prog 26 #[.pointer (some ⟨p, 0, none⟩)] w fun e w' => ∃ a', e = .returned (.tuple #[.pointer (some ⟨a', 0, none⟩), .int .i64 0]) ∧ w'.frozen? ⟨wb, 1, none⟩ = false ∧ w'.cell? ⟨wb, 1, none⟩ = some (.pointer (some ⟨a, 0, none⟩)) ∧ ∃ S', WdT T wB w0 (w'.setCell ⟨wb, 1, none⟩ (.pointer (some ⟨a', 0, none⟩))) wb a' p S' J' D' := by
  refine (open_any h.wd.dev hp).mono fun e w' hO => ?_
  unfold Opened at hO
  rw [hr] at hO
  obtain ⟨S', h1, h2, h3, a', h4, h5, h6, h7⟩ := hO
  have hwh : w'.heap[wb]? = some (.cells #[.pointer (some ⟨p, 0, none⟩), .pointer (some ⟨a, 0, none⟩)] 52 (0, 0)) := by rw [h3.block wb h.wd.lt h.wd.nw]; exact h.wd.wh
  exact ⟨a', h4, free_at hwh 1, by rw [cell_at hwh]; rfl, S', h.take h1 h2 h3 h5 h6 h7⟩
theorem WdT.commitX {W : World} {u : Value} {L : List (Int × ByteArray)} (h : WdT T wB w0 w wb a p S J D) (hb : Below w.heap.size w W) (ho : OwnW w.heap.size W u L) (ok : J.Ok D.disk.length) (hp : D.pend.length ≤ 700000) (hl : L.length ≤ 1000) (hs : ∀ x ∈ L, x.2.size ≤ maxLen) :
    Calls Tryz.prog 27 #[.pointer (some ⟨a, 0, none⟩), u] W fun e w' => e = .returned (.int .i64 (J.commit D L).1) ∧ (∃ S', WdT T wB w0 w' wb a p S' (J.commit D L).2.2 (J.commit D L).2.1) ∧ ∀ b, b < W.heap.size → ¬ S b → b ≠ a → w'.heap[b]? = W.heap[b]? := by
  have h2 := h.below hb
  have hla := h.wd.jr.lt
  have hg' : ∀ g off n c, u = .slice (some ⟨g, off, none⟩) n c → w.heap.size ≤ g ∧ g < W.heap.size := fun g off n c hu => ho.lt g (by rw [hu]; rfl)
  refine (commit_any h2.wd.jr h2.wd.dev h2.wd.na ok hp hl hs ho.sl (fun g off n c hu hS => ?_) ⟨fun g off n c hu => (hg' g off n c hu).2, fun g off n c hu => ?_⟩).mono fun e w' ⟨he, hj⟩ => ⟨he, h2.jleaves hj, ?_⟩
  · have := h.wd.dev.lt _ hS
    have := (hg' g off n c hu).1
    omega
  · have := (hg' g off n c hu).1
    omega
  · obtain ⟨S', _, _, _, hon⟩ := hj
    exact fun b h1 h2 h3 => hon.block b h1 (fun hk => by rcases hk with hk | hk; exact h2 hk; exact h3 hk)
theorem heldT {A : Act4} {b : Nat} (h : WdT T wB w0 w wb a p S J D) (hx : w.heap[b]? = some (.cells #[.int .i64 A.op, .int .i64 A.n, .int .i64 A.at_, .slice A.kao A.keep.length A.kcap, .slice A.bao A.blks.length A.bcap, .string A.data] 40 (0, 0))) : HeldA wb a p b A w := heldA h.wd hx

set_option maxRecDepth 100000 in
set_option maxHeartbeats 4000000 in
theorem does4_T (h : WdT T wB w0 w wb a p S J D) (A : Act4) (hA : A.Ok w0) (hf : A.Fits) {N m : Nat} (hw : Well N m J D) (hN : N + 2 < 1000000) (hm : m ≤ 500000) :
    Calls Tryz.prog 10 #[.pointer (some ⟨wb, 0, none⟩), .agg #[.int .i64 A.op, .int .i64 A.n, .int .i64 A.at_, .slice A.kao A.keep.length A.kcap, .slice A.bao A.blks.length A.bcap, .string A.data]] w fun e w' => e = .returned (.int .i64 (doesJ A J D).1) ∧ ∃ a' S', WdT T wB w0 w' wb a' p S' (doesJ A J D).2.2 (doesJ A J D).2.1 := by
  obtain ⟨X, hX⟩ : ∃ X, w.alloc (.cells #[.int .i64 A.op, .int .i64 A.n, .int .i64 A.at_, .slice A.kao A.keep.length A.kcap, .slice A.bao A.blks.length A.bcap, .string A.data] 40) = X := ⟨_, rfl⟩
  have hbX : Below w.heap.size w X := by rw [← hX]; exact (Below.refl _ _).alloc (Nat.le_refl _) _
  have hxc : X.heap[w.heap.size]? = some (.cells #[.int .i64 A.op, .int .i64 A.n, .int .i64 A.at_, .slice A.kao A.keep.length A.kcap, .slice A.bao A.blks.length A.bcap, .string A.data] 40 (0, 0)) := by rw [← hX, heap_alloc_new]
  have hWX := h.below hbX
  have hbs : ¬ S w.heap.size := fun hk => by have := h.dev.lt _ hk; omega
  have hba : w.heap.size ≠ a := by have := h.jr.lt; omega
  have hbl : w.heap.size < X.heap.size := (Array.getElem?_eq_some_iff.1 hxc).1
  have HWX := Lib.hid hWX
  have HX := Lib.hid hX
  clear hX h hbX
  obtain ⟨b, hb⟩ : ∃ b, w.heap.size = b := ⟨_, rfl⟩
  rw [hb] at hxc hbs hba hbl
  have HE := Lib.hid hb
  have HXC := Lib.hid hxc
  have HBS := Lib.hid hbs; have HBA := Lib.hid hba
  clear hb hxc hbs hba
  have hop := pickI_lt A.op 9 (by omega)
  have HP : Hid (∀ W, Calls Tryz.prog 11 #[.int .i64 A.op, .int .i64 9] W fun e w' => e = .returned (.int .i64 (pickI A.op 9)) ∧ W = w') := fun W => pick_any A.op 9 W hA.op0 (by omega)
  have HPn : Hid (∀ W, Calls Tryz.prog 11 #[.int .i64 A.n, .int .i64 60] W fun e w' => e = .returned (.int .i64 (pickI A.n 60)) ∧ W = w') := fun W => pick_any A.n 60 W hA.n0 (by omega)
  have hdk : D.disk.length = 70 := hw.len
  have HOK : Hid (J.Ok D.disk.length) := by show J.Ok _; rw [hdk]; exact hw.ok
  have HPD : Hid (D.pend.length ≤ 500000) := Nat.le_trans hw.pend hm
  have HKI : Hid (KeepIn w0 A) := hA.keeps
  have HKL : Hid (A.keep.length ≤ 200) := hf.2.1
  have HWr : Hid (∀ W, Below X.heap.size X W → Calls Tryz.prog 16 #[.agg #[.int .i64 A.op, .int .i64 A.n, .int .i64 A.at_, .slice A.kao A.keep.length A.kcap, .slice A.bao A.blks.length A.bcap, .string A.data]] W fun e w' => ∃ u, e = .returned u ∧ OwnW W.heap.size w' u A.wrs ∧ Below W.heap.size W w') := fun W hW =>
    writes_any A W hf.1 hf.2.2 hA.bin (hA.blks.below (hWX.bel.trans (hW.mono hWX.bel.size)))
  obtain ⟨DC, JC, hcr, _⟩ := hw.crash hN A.keep A.at_ A.n
  have HCR := Lib.hid hcr
  obtain ⟨o, ho⟩ : ∃ o, pickI A.op 9 = o := ⟨_, rfl⟩
  have HDo : Hid (doesJ A J D = if o = 6 then J.ckp D else if o = 7 then (0, D.setFuse (pickI A.n 60), J) else if o = 8 then (0, DC, JC) else J.commit D A.wrs) := by
    show doesJ A J D = _
    unfold doesJ
    rw [ho, hcr]
    rfl
  rw [ho] at HP hop
  clear ho hcr hw hdk hA hf hWX hN hm
  by_cases o6 : o = 6
  · subst o6
    have e : doesJ A J D = J.ckp D := by rw [HDo.out, if_pos rfl]
    rw [e]
    have C := Lib.hid (ckp_any HWX.out.jr HWX.out.dev HWX.out.na HOK.out (by have := HPD.out; omega))
    clear e HDo
    obtain ⟨c0, c1, k0, k1, k2, k3, k4, k5⟩ := heldT HWX.out HXC.out
    go_enter Tryz.func10, Tryz.ntmps10
    go_wp2_with fail
    rw [HX.out, HE.out]
    refine (HP.out _).mono ?_
    rintro e w1' ⟨rfl, rfl⟩
    go_wp2_with fail
    refine C.out.mono ?_
    rintro e w2 ⟨rfl, hj⟩
    have HJ := Lib.hid hj; clear hj
    go_wp2
    go_ret
    obtain ⟨S', hh⟩ := HWX.out.jleaves HJ.out
    exact ⟨rfl, a, S', hh⟩
  · by_cases o7 : o = 7
    · subst o7
      have e : doesJ A J D = (0, D.setFuse (pickI A.n 60), J) := by rw [HDo.out, if_neg (by omega), if_pos rfl]
      rw [e]
      have hq := pickI_lt A.n 60 (by omega)
      generalize pickI A.n 60 = q at *
      have C : Hid (Calls Tryz.prog 38 #[.pointer (some ⟨p, 0, none⟩), .int .i64 q] X.drew fun e w' => e = .returned (.tuple #[]) ∧ (∃ S', WdT T wB w0 w' wb a p S' J (D.setFuse q)) ∧ HeldA wb a p b A w') := by
        have hd : Below X.heap.size X X.drew := (Below.refl _ _).drew
        have h2 := HWX.out.below hd
        refine (fuse_any q (by omega) h2.dev).mono fun e w' ⟨he, h3, h4⟩ => ?_
        obtain ⟨S', h5⟩ := h2.leaves (.mk h3 h4)
        exact ⟨he, ⟨S', h5⟩, heldT h5 (by rw [h4.block b hbl HBS.out]; exact HXC.out)⟩
      clear e HDo o6
      obtain ⟨c0, c1, k0, k1, k2, k3, k4, k5⟩ := heldT HWX.out HXC.out
      go_enter Tryz.func10, Tryz.ntmps10
      go_wp2_with fail
      rw [HX.out, HE.out]
      refine (HP.out _).mono ?_
      rintro e w1' ⟨rfl, rfl⟩
      go_wp2_with fail
      go_region_held3 (HeldA wb a p b A)
        (first | exact ⟨c0, c1, k0, k1, k2, k3, k4, k5⟩ | assumption)
        (first | (go_at_call 11; refine (HPn.out _).mono ?_; rintro e w2 ⟨rfl, rfl⟩) | (go_at_call 38; refine C.out.mono ?_; rintro e w3 ⟨rfl, hw3, hh3⟩))
      all_goals
        obtain ⟨S3, hw3⟩ := hw3
        have HW3 := Lib.hid hw3
        clear hw3
        go_wp2
        go_ret
        exact ⟨rfl, a, S3, HW3.out⟩
    · by_cases o8 : o = 8
      · subst o8
        have e : doesJ A J D = (0, DC, JC) := by rw [HDo.out, if_neg (by omega), if_neg (by omega), if_pos rfl]
        rw [e]
        have C : Hid (Calls Tryz.prog 39 #[.pointer (some ⟨p, 0, none⟩), .slice A.kao A.keep.length A.kcap, .int .i64 A.at_, .int .i64 A.n] X.drew fun e w' => e = .returned (.tuple #[]) ∧ (∃ S', WdT T wB w0 w' wb a p S' J (D.crash A.keep A.at_ A.n)) ∧ HeldA wb a p b A w') := by
          have hd : Below X.heap.size X X.drew := (Below.refl _ _).drew
          have h2 := HWX.out.below hd
          refine (crash_any A.keep A.at_ A.n _ (by have := HPD.out; omega) (by have := HKL.out; omega) h2.dev ⟨_, _, rfl, ?_⟩).mono fun e w' ⟨he, h3, h4⟩ => ?_
          · rcases HKI.out with hk | ⟨g, off, i1, i2, i3⟩
            · exact .inl hk
            · exact .inr ⟨g, off, i1, fun hs => by have := h2.own g hs; omega, fun i hi => (h2.bel.cell (p := ⟨g, off + i, none⟩) i2).trans (i3 i hi)⟩
          · obtain ⟨S', h5⟩ := h2.leaves (.mk h3 h4)
            exact ⟨he, ⟨S', h5⟩, heldT h5 (by rw [h4.block b hbl HBS.out]; exact HXC.out)⟩
        clear e HDo o6 o7
        obtain ⟨c0, c1, k0, k1, k2, k3, k4, k5⟩ := heldT HWX.out HXC.out
        go_enter Tryz.func10, Tryz.ntmps10
        go_wp2_with fail
        rw [HX.out, HE.out]
        refine (HP.out _).mono ?_
        rintro e w1' ⟨rfl, rfl⟩
        go_wp2_with fail
        go_region_held3 (HeldA wb a p b A)
          (first | exact ⟨c0, c1, k0, k1, k2, k3, k4, k5⟩ | assumption)
          (first | (go_at_call 39; refine C.out.mono ?_; rintro e w2 ⟨rfl, hw2, hh2⟩))
        obtain ⟨S2, hw2⟩ := hw2
        clear hh2
        have CO := Lib.hid (hw2.opn (by simp [DevS.crash]) HCR.out)
        have c0' := hw2.c0
        clear hw2 C c0 c1 k0 k1 k2 k3 k4 k5
        go_wp2_with fail
        refine CO.out.mono ?_
        rintro e w3 ⟨a', rfl, hf3, hc3, S3, hw3⟩
        have HW3 := Lib.hid hw3
        clear hw3 CO c0'
        go_wp2
        go_ret
        exact ⟨rfl, a', S3, HW3.out⟩
      · have e : doesJ A J D = J.commit D A.wrs := by rw [HDo.out, if_neg o6, if_neg o7, if_neg o8]
        rw [e]
        have b6 : (o == 6) = false := by simpa using o6
        have b7 : (o == 7) = false := by simpa using o7
        have b8 : (o == 8) = false := by simpa using o8
        have CC : Hid (∀ u W, Below X.heap.size X W → OwnW X.heap.size W u A.wrs → Calls Tryz.prog 27 #[.pointer (some ⟨a, 0, none⟩), u] W fun e w' => e = .returned (.int .i64 (J.commit D A.wrs).1) ∧ (∃ S', WdT T wB w0 w' wb a p S' (J.commit D A.wrs).2.2 (J.commit D A.wrs).2.1) ∧ HeldA wb a p b A w') := fun u W hW hO =>
          (HWX.out.commitX hW hO HOK.out (by have := HPD.out; omega) (by have := A.wrs_len; omega) A.wrs_size).mono fun e w' ⟨he, ⟨S', hw'⟩, hk⟩ => ⟨he, ⟨S', hw'⟩, heldT hw' (by rw [hk b (Nat.lt_of_lt_of_le hbl hW.size) HBS.out HBA.out, hW.block b hbl]; exact HXC.out)⟩
        generalize J.commit D A.wrs = R at *
        obtain ⟨M, hM⟩ : ∃ M, A.wrs = M := ⟨_, rfl⟩
        rw [hM] at CC HWr
        have HKB : Hid (∀ W, Below X.heap.size X W → HeldA wb a p b A W) := fun W hW => heldT (HWX.out.below hW) (by rw [hW.block b hbl]; exact HXC.out)
        clear e HDo o6 o7 o8 hM
        obtain ⟨c0, c1, k0, k1, k2, k3, k4, k5⟩ := heldT HWX.out HXC.out
        go_enter Tryz.func10, Tryz.ntmps10
        go_wp2_with fail
        rw [HX.out, HE.out]
        refine (HP.out _).mono ?_
        rintro e w1' ⟨rfl, rfl⟩
        go_wp2_with fail
        go_region_held3 (HeldA wb a p b A)
          (first | exact ⟨c0, c1, k0, k1, k2, k3, k4, k5⟩ | assumption)
          (first
            | (go_at_call 16; refine (HWr.out _ ((Below.refl _ _).drew)).mono ?_; rintro e w2 ⟨u, rfl, ho2, hb2'⟩; have hb2 : Below X.heap.size X w2 := Fr.below_predrew hb2'; have hh2 := HKB.out _ hb2; have CC2 := Lib.hid (CC.out u w2 hb2 ho2); clear hb2' ho2)
            | (go_at_call 27; refine CC2.out.mono ?_; rintro e w3 ⟨rfl, hw3, hh3⟩))
        all_goals
          obtain ⟨S3, hw3⟩ := hw3
          have HW3 := Lib.hid hw3
          clear hw3
          go_wp2
          go_ret
          exact ⟨rfl, a, S3, HW3.out⟩
end
end Go.Proofs.YtepfcaopboenpaaGreat
/- JournalTwice: the walk: a journal that is opened twice is the same both times. -/
namespace Go.Proofs.YtepfcaopboenpaaGreat
open Go.RowKit
open Fr (SlW OwnW OwnS SlS)

section
variable {N m n : Nat} {J : JS} {D : DevS} {H : Nat → ByteArray} {F : List (List Wr)}
theorem Sync.homeL (h : Sync N 70 J D H F) : D.homeL = hl H := by
  unfold DevS.homeL homeK hl
  apply List.map_congr_left
  intro i hi
  have := List.mem_range.1 hi
  rw [DevS.rd_live h.pre.live _ (by rw [h.pre.len]; omega)]
  exact h.pre.read (52 + i) (by omega) (by omega)
theorem twice_math (h : Well N m J D) (hN : N + 2 < 1000000) : ∃ D1 J1 D2 J2 T, (D.crash [] (-1) 0).opn = (0, D1, some J1) ∧ D1.opn = (0, D2, some J2) ∧ D1.homeL = T ∧ D2.homeL = T ∧ T.length = 18 ∧ J2.next = J1.next ∧ J1.full = 0 ∧ J2.full = 0 ∧ J1.next < 1000000 ∧ D1.pend = [] ∧ D2.pend = [] := by
  obtain ⟨X, J1, _, a, b, c, d, e, f⟩ := crash_open h.dok h.safe (by omega) [] (-1) 0
  generalize hO : (D.crash [] (-1) 0).opn = R at *
  obtain ⟨e1, D1, O1⟩ := R
  simp only at a b c d e
  subst a b
  obtain ⟨a2, b2, c2, d2⟩ := open_again c (by omega) d e
  generalize hO2 : D1.opn = R2 at *
  obtain ⟨e2, D2, O2⟩ := R2
  simp only at a2 b2 c2 d2
  subst a2 b2
  have hb := c.pre.good.bnd.2; have hg := c.pre.good.big
  exact ⟨D1, J1, D2, J1.next', hl X, rfl, hO2, c.homeL, c2.homeL, hl_len X, rfl, f, rfl, by omega, d, d2⟩
end
section
variable {w0 w w' : World} {wb a p : Nat} {S : Nat → Prop} {J J' : JS} {D D' : DevS}
/-- Open, of which the world does not hear yet. -/
theorem Wd.opn2 (h : Wd w0 w wb a p S J D) (hp : D.pend.length ≤ 600000) (hr : D.opn = (0, D', some J')) :
    Calls Tryz.prog 26 #[.pointer (some ⟨p, 0, none⟩)] w fun e w' => ∃ a' S', e = .returned (.tuple #[.pointer (some ⟨a', 0, none⟩), .int .i64 0]) ∧ Wd w0 w' wb a p S' J D' ∧ Jr 79 w' a' p J' ∧ ¬ S' a' ∧ Only S w w' := by
  refine (open_any h.dev hp).mono fun e w' hO => ?_
  unfold Opened at hO
  rw [hr] at hO
  obtain ⟨S', h1, h2, h3, a', h4, h5, h6, h7⟩ := hO
  have hla := h.jr.lt
  have hlw := h.lt
  have hsz := h.bel.size
  refine ⟨a', S', h4, ⟨fun k hk => ?_, h2, h.jr.only h3 h.na, by rw [h3.block wb hlw h.nw]; exact h.wh, fun hk => ?_, fun hk => ?_, h.aw, h.la, h.lw, h.bel.trans (h3.below hsz (fun k _ hk => h.own k hk))⟩, h7, h6, h3⟩
  · rcases h1 k hk with h1 | h1
    · exact h.own k h1
    · omega
  · rcases h1 a hk with h1 | h1
    · exact h.na h1
    · omega
  · rcases h1 wb hk with h1 | h1
    · exact h.nw h1
    · omega
theorem Wd.crash0 (h : Wd w0 w wb a p S J D) (hp : D.pend.length ≤ 600000) :
    Calls Tryz.prog 39 #[.pointer (some ⟨p, 0, none⟩), .slice none 0 0, .int .i64 (-1), .int .i64 0] w fun e w' => e = .returned (.tuple #[]) ∧ ∃ S', Wd w0 w' wb a p S' J (D.crash [] (-1) 0) :=
  (crash_any [] (-1) 0 (.slice none 0 0) (by omega) (by simp) h.dev ⟨none, 0, rfl, .inl rfl⟩).mono fun e w' ⟨he, h1, h2⟩ => ⟨he, h.leaves (.mk h1 h2)⟩
theorem Act4.Ok.below {A : Act4} (h : A.Ok w0) (hb : Below w0.heap.size w0 w) : A.Ok w := by
  refine ⟨h.op0, h.n0, h.at0, h.klen, h.blen, h.dlen, ?_, h.bin, h.blks.below hb⟩
  rcases h.keeps with h | ⟨g, off, h1, h2, h3⟩
  · exact .inl h
  · exact .inr ⟨g, off, h1, Nat.lt_of_lt_of_le h2 hb.size, fun i hi => (hb.cell (p := ⟨g, off + i, none⟩) h2).trans (h3 i hi)⟩
end
theorem begin_well : ∃ DB, (∀ w, Calls Tryz.prog 6 #[] w fun e w' => ∃ wb a p S, e = .returned (.tuple #[.pointer (some ⟨wb, 0, none⟩), .bool true]) ∧ Wd w w' wb a p S Jb DB) ∧ Well 2 0 Jb DB := by
  obtain ⟨_, hsy, hpn, hfu⟩ := begin_sync 70 (by omega) (by omega)
  exact ⟨Db 70, begin_any, Well.of_sync hsy (by rw [hpn]; simp)⟩

end Go.Proofs.YtepfcaopboenpaaGreat
/- The document's own Open, in plain lists: which slot counts, looked for from block 1 down to block 0; the journal in memory before a slot is found. -/
namespace Go.Proofs.YtepfcaopboenpaaGreat
open Go.RowKit

/-- The slot that counts among the first so many that were looked at: block 1 first, then block 0. -/
def DevS.bestV (D : DevS) : Nat → Option ((Nat × Nat × Nat × Nat) × Nat)
  | 0 => none
  | 1 => (D.slotAt 1).map fun y => (y, 1)
  | _ => match D.slotAt 0, D.slotAt 1 with
    | none, none => none
    | some x, none => some (x, 0)
    | none, some y => some (y, 1)
    | some x, some y => if y.1 ≤ x.1 then some (x, 0) else some (y, 1)
theorem find_bestV (D : DevS) : D.find = (D.bestV 2).map (fun x => slotJ x.1 x.2) := by
  unfold DevS.find
  show _ = Option.map _ (match D.slotAt 0, D.slotAt 1 with
    | none, none => none
    | some x, none => some (x, 0)
    | none, some y => some (y, 1)
    | some x, some y => if y.1 ≤ x.1 then some (x, 0) else some (y, 1))
  cases D.slotAt 0 with
  | none => cases D.slotAt 1 <;> rfl
  | some x =>
    cases D.slotAt 1 with
    | none => rfl
    | some y =>
      show (if x.1 < y.1 then _ else _) = Option.map _ (if y.1 ≤ x.1 then _ else _)
      by_cases h : x.1 < y.1
      · rw [if_pos h, if_neg (by omega)]; rfl
      · rw [if_neg h, if_pos (by omega)]; rfl
theorem bestV_none (D : DevS) (k : Nat) (hk : k < 2) (h : D.slotAt (1 - k) = none) : D.bestV (k + 1) = D.bestV k := by
  rcases (show k = 0 ∨ k = 1 by omega) with rfl | rfl
  · show (D.slotAt 1).map _ = none
    rw [show D.slotAt 1 = none from h]; rfl
  · have h0 : D.slotAt 0 = none := h
    show (match D.slotAt 0, D.slotAt 1 with
      | none, none => none
      | some x, none => some (x, 0)
      | none, some y => some (y, 1)
      | some x, some y => if y.1 ≤ x.1 then some (x, 0) else some (y, 1)) = (D.slotAt 1).map _
    rw [h0]
    cases D.slotAt 1 <;> rfl
theorem bestV_some (D : DevS) (k : Nat) (hk : k < 2) {x : Nat × Nat × Nat × Nat} (h : D.slotAt (1 - k) = some x) : D.bestV (k + 1) = match D.bestV k with | none => some (x, 1 - k) | some y => if y.1.1 ≤ x.1 then some (x, 1 - k) else some y := by
  rcases (show k = 0 ∨ k = 1 by omega) with rfl | rfl
  · show (D.slotAt 1).map _ = some (x, 1)
    rw [show D.slotAt 1 = some x from h]; rfl
  · have h0 : D.slotAt 0 = some x := h
    show (match D.slotAt 0, D.slotAt 1 with
      | none, none => none
      | some x, none => some (x, 0)
      | none, some y => some (y, 1)
      | some x, some y => if y.1 ≤ x.1 then some (x, 0) else some (y, 1)) = match (D.slotAt 1).map (fun y => (y, 1)) with | none => some (x, 0) | some y => if y.1.1 ≤ x.1 then some (x, 0) else some y
    rw [h0]
    cases D.slotAt 1 <;> rfl

/-- The cells of the journal before and behind a slot is found. -/
def VCells (r : Nat) : Option ((Nat × Nat × Nat × Nat) × Nat) → Array Value
  | none => #[.pointer (some ⟨r, 0, none⟩), .int .u64 0, .int .u64 0, .int .i64 0, .int .i64 0, .int .i64 (-1), .int .u64 0, .int .i64 0]
  | some x => #[.pointer (some ⟨r, 0, none⟩), .int .u64 (x.1.1 : Int), .int .u64 (x.1.2.1 : Int), .int .i64 (x.1.2.2.1 : Int), .int .i64 (x.1.2.2.2 : Int), .int .i64 (x.2 : Int), .int .u64 0, .int .i64 0]
def VJr (w : World) (a r : Nat) (o : Option ((Nat × Nat × Nat × Nat) × Nat)) : Prop := w.heap[a]? = some (.cells (VCells r o) 57 (0, 0))
section
variable {w w' : World} {a r : Nat} {o : Option ((Nat × Nat × Nat × Nat) × Nat)}
theorem VJr.lt (h : VJr w a r o) : a < w.heap.size := (Array.getElem?_eq_some_iff.1 h).1
theorem VJr.f (h : VJr w a r o) (i : Nat) : w.frozen? ⟨a, i, none⟩ = false := free_at h i
theorem VJr.below (h : VJr w a r o) (hb : Below w.heap.size w w') : VJr w' a r o := by unfold VJr; rw [hb.block a h.lt]; exact h
theorem VJr.c0 (h : VJr w a r o) : w.cell? ⟨a, 0, none⟩ = some (.pointer (some ⟨r, 0, none⟩)) := by rw [cell_at h]; cases o <;> rfl
/-- What the cells 1 to 5 hold. -/
def v1 : Option ((Nat × Nat × Nat × Nat) × Nat) → Int | none => 0 | some x => (x.1.1 : Int)
def v2 : Option ((Nat × Nat × Nat × Nat) × Nat) → Int | none => 0 | some x => (x.1.2.1 : Int)
def v3 : Option ((Nat × Nat × Nat × Nat) × Nat) → Int | none => 0 | some x => (x.1.2.2.1 : Int)
def v4 : Option ((Nat × Nat × Nat × Nat) × Nat) → Int | none => 0 | some x => (x.1.2.2.2 : Int)
def v5 : Option ((Nat × Nat × Nat × Nat) × Nat) → Int | none => -1 | some x => (x.2 : Int)
theorem VJr.c1 (h : VJr w a r o) : w.cell? ⟨a, 1, none⟩ = some (.int .u64 (v1 o)) := by rw [cell_at h]; cases o <;> rfl
theorem VJr.c2 (h : VJr w a r o) : w.cell? ⟨a, 2, none⟩ = some (.int .u64 (v2 o)) := by rw [cell_at h]; cases o <;> rfl
theorem VJr.c3 (h : VJr w a r o) : w.cell? ⟨a, 3, none⟩ = some (.int .i64 (v3 o)) := by rw [cell_at h]; cases o <;> rfl
theorem VJr.c4 (h : VJr w a r o) : w.cell? ⟨a, 4, none⟩ = some (.int .i64 (v4 o)) := by rw [cell_at h]; cases o <;> rfl
theorem VJr.c5 (h : VJr w a r o) : w.cell? ⟨a, 5, none⟩ = some (.int .i64 (v5 o)) := by rw [cell_at h]; cases o <;> rfl
theorem VJr.c6 (h : VJr w a r o) : w.cell? ⟨a, 6, none⟩ = some (.int .u64 0) := by rw [cell_at h]; cases o <;> rfl
theorem VJr.sl (h : VJr w a r o) (x : Nat × Nat × Nat × Nat) (k : Nat) : VJr (slW w a x k) a r (some (x, k)) := by
  unfold VJr at h ⊢
  have h1 := heap_setCell_at (i := 1) h (.int .u64 (x.1 : Int))
  have h2 := heap_setCell_at (i := 2) h1 (.int .u64 (x.2.1 : Int))
  have h3 := heap_setCell_at (i := 3) h2 (.int .i64 (x.2.2.1 : Int))
  have h4 := heap_setCell_at (i := 4) h3 (.int .i64 (x.2.2.2 : Int))
  have h5 := heap_setCell_at (i := 5) h4 (.int .i64 (k : Int))
  rw [h5]
  cases o <;> simp [VCells]
/-- The slot is found, and the next number taken up. -/
theorem VJr.found {x : (Nat × Nat × Nat × Nat) × Nat} (h : VJr w a r (some x)) : Jr 57 (w.setCell ⟨a, 6, none⟩ (.int .u64 (x.1.2.1 : Int))) a r (slotJ x.1 x.2) := by
  unfold VJr at h
  unfold Jr
  rw [heap_setCell_at h]
  simp [VCells, JCells, slotJ]
end
end Go.Proofs.YtepfcaopboenpaaGreat
