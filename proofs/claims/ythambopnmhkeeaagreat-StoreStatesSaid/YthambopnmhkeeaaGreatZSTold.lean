/- A store in plain lists, while the power is there: what is committed (H), told (t), touched (d), the bitmap, and what each call answers and leaves. Nothing is kept here: how many blocks are kept is not seen (SMath). -/
import Derived.Test.YthambopnmhkeeaaGreatZCMath
import Derived.Test.YthambopnmhkeeaaGreatZWMath

namespace Go.Proofs.YthambopnmhkeeaaGreat
open Bm
def nbM (n : Nat) : Nat := (n + 2047) / 2048
def firstD (n : Nat) : Nat := 63 + nbM n
def blkM (l : List UInt8) (k : Nat) : List UInt8 := (l.drop (256 * k)).take 256
def mapT (n : Nat) (t : Int -> ByteArray) : List UInt8 := (List.range (nbM n)).flatMap fun k => (t ((63 + k : Nat) : Int)).data.toList
def txt (l : List UInt8) : ByteArray := ⟨l.toArray⟩
def turnedM (n : Nat) (was bits : List UInt8) : List (Int × ByteArray) := ((List.range (nbM n)).filter fun k => blkM bits k != blkM was k).map fun k => (((63 + k : Nat) : Int), txt (blkM bits k))
theorem blk_len {l : List UInt8} {m k : Nat} (h : l.length = 256 * m) (hk : k < m) : (blkM l k).length = 256 := by
 unfold blkM; rw [List.length_take, List.length_drop]; omega
theorem blocks_join (l : List UInt8) (m : Nat) (h : l.length = 256 * m) : (List.range m).flatMap (blkM l) = l := by
 induction m generalizing l with
 | zero => cases l with
  | nil => rfl
  | cons _ _ => simp at h
 | succ m ih =>
  rw [List.range_succ_eq_map, List.flatMap_cons, List.flatMap_map]
  have h2 := ih (l.drop 256) (by rw [List.length_drop]; omega)
  have e : (fun k => blkM l (k + 1)) = blkM (l.drop 256) := by
   funext k; unfold blkM; rw [List.drop_drop]; congr 2; omega
  show blkM l 0 ++ (List.range m).flatMap (fun k => blkM l (k + 1)) = l
  rw [e, h2]
  unfold blkM
  rw [Nat.mul_zero, List.drop_zero, List.take_append_drop]
theorem mapT_len (n : Nat) (t : Int -> ByteArray) (h : ∀ i, (t i).size = 256) : (mapT n t).length = 256 * nbM n := by
 unfold mapT
 induction nbM n with
 | zero => rfl
 | succ m ih =>
  rw [List.range_succ, List.flatMap_append, List.length_append, ih]
  have := h ((63 + m : Nat) : Int)
  simp only [List.flatMap_cons, List.flatMap_nil, List.append_nil, Array.length_toList]
  show 256 * m + (t _).size = _
  omega
theorem fm_blk (g : Nat -> List UInt8) (hg : ∀ j, (g j).length = 256) (m k : Nat) (hk : k < m) : blkM ((List.range m).flatMap g) k = g k := by
 induction m generalizing g k with
 | zero => omega
 | succ m ih =>
  rw [List.range_succ_eq_map, List.flatMap_cons, List.flatMap_map]
  have h0 := hg 0
  cases k with
  | zero => unfold blkM; rw [Nat.mul_zero, List.drop_zero, <- h0, List.take_left]
  | succ k =>
   have := ih (fun j => g (j + 1)) (fun j => hg _) k (by omega)
   rw [<- this]
   unfold blkM
   rw [show 256 * (k + 1) = (g 0).length + 256 * k by omega, <- List.drop_drop, List.drop_left]
theorem mapT_blk (n : Nat) (t : Int -> ByteArray) (h : ∀ i, (t i).size = 256) (k : Nat) (hk : k < nbM n) : blkM (mapT n t) k = (t ((63 + k : Nat) : Int)).data.toList :=
 fm_blk _ (fun j => by rw [Array.length_toList]; exact h _) _ _ hk
theorem mapT_of (n : Nat) (t : Int -> ByteArray) (B : List UInt8) (hB : B.length = 256 * nbM n) (h : ∀ k, k < nbM n -> (t ((63 + k : Nat) : Int)).data.toList = blkM B k) : mapT n t = B := by
 rw [<- blocks_join B _ hB]
 unfold mapT
 have : ∀ m, m <= nbM n -> (List.range m).flatMap (fun k => (t ((63 + k : Nat) : Int)).data.toList) = (List.range m).flatMap (blkM B) := by
  intro m
  induction m with
  | zero => intro _; rfl
  | succ m ih =>
   intro hm
   rw [List.range_succ, List.flatMap_append, List.flatMap_append, ih (by omega)]
   simp only [List.flatMap_cons, List.flatMap_nil, List.append_nil]
   rw [h m (by omega)]
 exact this _ (Nat.le_refl _)
structure TS where
 n : Nat
 H : Int -> ByteArray
 t : Int -> ByteArray
 d : Int -> Bool
 bits : List UInt8
 keep : List UInt8
 op : Bool
namespace TS
def data (P : TS) (i c : Int) : Bool := decide ((firstD P.n : Int) <= i) && decide (c <= (P.n : Int) - i)
def cnt (P : TS) : Nat := (List.range P.n).countP fun i : Nat => P.d (i : Int)
def over (P : TS) (L : List (Int × ByteArray)) : TS := L.foldl (fun P x => { P with t := fun j => if j = x.1 then x.2 else P.t j, d := fun j => if j = x.1 then true else P.d j }) P
def touch (P : TS) (L : List (Int × ByteArray)) : Int × TS := if 48 < P.cnt + (L.filter fun x => !P.d x.1).length then (6, P) else (0, P.over L)
def undo (P : TS) : TS := { P with t := P.H, d := fun _ => false, bits := P.keep, op := false }
def begin_ (P : TS) : Int × TS := if P.op = true then (15, P) else (0, { P with op := true })
def write (P : TS) (i : Int) (s : ByteArray) : Int × TS :=
 if P.op = false then (15, P) else if P.data i 1 = false then (2, P) else if gb P.bits i = false then (10, P) else if s.size ≠ 256 then (3, P) else P.touch [(i, s)]
def turn (P : TS) (a c : Nat) (on : Bool) : Int × TS :=
 let B := stL P.bits a on c
 match P.touch (turnedM P.n P.bits B) with
 | (e, Q) => if e ≠ 0 then (e, P) else (0, { Q with bits := B })
def alloc (P : TS) (c : Int) : (Int × Int) × TS :=
 if P.op = false then ((0, 15), P) else if c < 1 then ((0, 1), P) else match fit P.bits P.n c.toNat with
  | none => ((0, 9), P)
  | some a => match P.turn a c.toNat true with
   | (e, Q) => if e ≠ 0 then ((0, e), P) else (((a : Int), 0), Q)
def release (P : TS) (a c : Int) : Int × TS :=
 if P.op = false then (15, P) else if c < 1 \/ P.data a c = false then (2, P) else if (List.range c.toNat).all (fun k => gb P.bits (a + k)) = false then (10, P) else P.turn a.toNat c.toNat false
def commit (P : TS) : Int × TS :=
 if P.op = false then (15, P) else (0, { P with H := P.t, keep := P.bits }.undo)
def read (P : TS) (i : Int) : ByteArray × Int := if P.data i 1 = false then (⟨#[]⟩, 2) else (P.t i, 0)
structure Ok (P : TS) : Prop where
 n0 : 128 <= P.n
 n1 : P.n <= 4096
 same : ∀ i, P.d i = false -> P.t i = P.H i
 shut : P.op = false -> ∀ i, P.d i = false
 rng : ∀ i, P.d i = true -> 63 <= i /\ i < P.n
 st : ∀ i, (P.t i).size = 256
 sH : ∀ i, (P.H i).size = 256
 mt : P.bits = mapT P.n P.t
 mH : P.keep = mapT P.n P.H
 low : ∀ i, i < firstD P.n -> bt P.bits i = true /\ bt P.keep i = true
 high : ∀ i, P.n <= i -> bt P.bits i = false /\ bt P.keep i = false
 few : P.cnt <= 48
theorem over_n (P : TS) (L : List (Int × ByteArray)) : (P.over L).n = P.n /\ (P.over L).H = P.H /\ (P.over L).bits = P.bits /\ (P.over L).keep = P.keep /\ (P.over L).op = P.op := by
 induction L generalizing P with
 | nil => exact ⟨rfl, rfl, rfl, rfl, rfl⟩
 | cons x r ih => exact ih { P with t := fun j => if j = x.1 then x.2 else P.t j, d := fun j => if j = x.1 then true else P.d j }
theorem over_not (P : TS) (L : List (Int × ByteArray)) (i : Int) (h : ∀ x ∈ L, x.1 ≠ i) : (P.over L).t i = P.t i /\ (P.over L).d i = P.d i := by
 induction L generalizing P with
 | nil => exact ⟨rfl, rfl⟩
 | cons x r ih =>
  have h1 := ih { P with t := fun j => if j = x.1 then x.2 else P.t j, d := fun j => if j = x.1 then true else P.d j } fun y hy => h y (by simp [hy])
  have h2 := h x (by simp)
  dsimp only at h1
  rw [if_neg (Ne.symm h2), if_neg (Ne.symm h2)] at h1
  exact h1
theorem over_at (P : TS) (L : List (Int × ByteArray)) (hn : (L.map fun x => x.1).Nodup) (x : Int × ByteArray) (hx : x ∈ L) : (P.over L).t x.1 = x.2 /\ (P.over L).d x.1 = true := by
 induction L generalizing P with
 | nil => cases hx
 | cons y r ih =>
  obtain ⟨h1, h2⟩ := List.nodup_cons.1 (show (y.1 :: r.map fun x => x.1).Nodup from hn)
  rcases List.mem_cons.1 hx with rfl | hx
  ·have := over_not { P with t := fun j => if j = x.1 then x.2 else P.t j, d := fun j => if j = x.1 then true else P.d j } r x.1 (fun z hz e => h1 (e ▸ List.mem_map.2 ⟨z, hz, rfl⟩))
   dsimp only at this
   rw [if_pos rfl, if_pos rfl] at this
   exact this
  ·exact ih _ h2 hx
theorem Ok.undo {P : TS} (h : P.Ok) : P.undo.Ok /\ P.undo.cnt = 0 := by
 have hc : P.undo.cnt = 0 := List.countP_eq_zero.2 fun i _ => by show ¬ (false = true); simp
 exact ⟨⟨h.n0, h.n1, fun _ _ => rfl, fun _ _ => rfl, (fun _ hi => by cases hi), h.sH, h.sH, h.mH, h.mH, fun i hi => ⟨(h.low i hi).2, (h.low i hi).2⟩, fun i hi => ⟨(h.high i hi).2, (h.high i hi).2⟩, by omega⟩, hc⟩
theorem Ok.commit {P : TS} (h : P.Ok) : P.commit.2.Ok := by
 unfold TS.commit
 split
 ·exact h
 ·have h1 : ({ P with H := P.t, keep := P.bits } : TS).Ok := ⟨h.n0, h.n1, fun _ _ => rfl, h.shut, h.rng, h.st, h.st, h.mt, h.mt, fun i hi => ⟨(h.low i hi).1, (h.low i hi).1⟩, fun i hi => ⟨(h.high i hi).1, (h.high i hi).1⟩, h.few⟩
  exact h1.undo.1
theorem Ok.begin_ {P : TS} (h : P.Ok) : P.begin_.2.Ok := by
 unfold TS.begin_
 split
 ·exact h
 ·exact ⟨h.n0, h.n1, h.same, (fun e => by cases e), h.rng, h.st, h.sH, h.mt, h.mH, h.low, h.high, h.few⟩
theorem count_one (d : Int -> Bool) (x : Int) (n : Nat) : ((List.range n).countP fun i : Nat => if (i : Int) = x then true else d (i : Int)) <= ((List.range n).countP fun i : Nat => d (i : Int)) + (if (0 <= x /\ x < n) /\ d x = false then 1 else 0) := by
 induction n with
 | zero => simp
 | succ n ih =>
  rw [List.range_succ, List.countP_append, List.countP_append]
  have e : ∀ p : Nat -> Bool, List.countP p [n] = if p n = true then 1 else 0 := fun p => by rw [List.countP_cons, List.countP_nil, Nat.zero_add]
  rw [e, e]
  generalize (List.range n).countP (fun i : Nat => if (i : Int) = x then true else d (i : Int)) = A at ih ⊢
  generalize (List.range n).countP (fun i : Nat => d (i : Int)) = B at ih ⊢
  by_cases hx : (n : Int) = x
  ·have i1 : ¬ ((0 <= x /\ x < (n : Int)) /\ d x = false) := by omega
   rw [if_neg i1] at ih
   rw [if_pos hx, if_pos rfl]
   cases hd : d x with
   | false =>
    have i2 : (0 <= x /\ x < ((n + 1 : Nat) : Int)) /\ false = false := ⟨by omega, rfl⟩
    rw [if_pos i2]; omega
   | true =>
    have i3 : d (n : Int) = true := by rw [hx]; exact hd
    rw [if_pos i3]; omega
  ·rw [if_neg hx]
   have i4 : (if (0 <= x /\ x < (n : Int)) /\ d x = false then 1 else 0 : Nat) <= (if (0 <= x /\ x < ((n + 1 : Nat) : Int)) /\ d x = false then 1 else 0) := by
    by_cases h : (0 <= x /\ x < (n : Int)) /\ d x = false
    ·have h' : (0 <= x /\ x < ((n + 1 : Nat) : Int)) /\ d x = false := ⟨by omega, h.2⟩
     rw [if_pos h, if_pos h']; exact Nat.le_refl _
    ·rw [if_neg h]; exact Nat.zero_le _
   omega
theorem cnt_over (P : TS) (L : List (Int × ByteArray)) (hn : (L.map fun x => x.1).Nodup) : (P.over L).cnt <= P.cnt + (L.filter fun x => !P.d x.1).length := by
 induction L generalizing P with
 | nil => exact Nat.le_refl _
 | cons x r ih =>
  obtain ⟨h1, h2⟩ := List.nodup_cons.1 (show (x.1 :: r.map fun x => x.1).Nodup from hn)
  have h3 := ih { P with t := fun j => if j = x.1 then x.2 else P.t j, d := fun j => if j = x.1 then true else P.d j } h2
  have h4 : (r.filter fun y => !(if y.1 = x.1 then true else P.d y.1)) = r.filter fun y => !P.d y.1 := List.filter_congr fun y hy => by
   have : y.1 ≠ x.1 := fun e => h1 (e ▸ List.mem_map.2 ⟨y, hy, rfl⟩)
   rw [if_neg this]
  dsimp only at h3
  rw [h4] at h3
  have h5 := count_one P.d x.1 P.n
  have h6 : ((x :: r).filter fun y => !P.d y.1).length = (if P.d x.1 = false then 1 else 0) + (r.filter fun y => !P.d y.1).length := by
   rw [List.filter_cons]
   cases hd : P.d x.1 <;> simp <;> omega
  rw [h6]
  have h7 : (if ((0 : Int) <= x.1 /\ x.1 < P.n) /\ P.d x.1 = false then 1 else 0 : Nat) <= (if P.d x.1 = false then 1 else 0) := by
   split
   ·rename_i h; rw [if_pos h.2]; exact Nat.le_refl _
   ·exact Nat.zero_le _
  have h8 : (TS.cnt { P with t := fun j => if j = x.1 then x.2 else P.t j, d := fun j => if j = x.1 then true else P.d j }) = ((List.range P.n).countP fun i : Nat => if (i : Int) = x.1 then true else P.d (i : Int)) := rfl
  have h9 : P.cnt = ((List.range P.n).countP fun i : Nat => P.d (i : Int)) := rfl
  refine Nat.le_trans h3 ?_
  rw [h8, h9]
  omega
theorem Ok.touched {P : TS} (h : P.Ok) (hop : P.op = true) (L : List (Int × ByteArray)) (B : List UInt8) (hn : (L.map fun x => x.1).Nodup) (hr : ∀ x ∈ L, 63 <= x.1 /\ x.1 < P.n /\ x.2.size = 256) (hB : mapT P.n (P.over L).t = B)
  (low : ∀ i, i < firstD P.n -> bt B i = true) (high : ∀ i, P.n <= i -> bt B i = false) (he : (P.touch L).1 = 0) : ({ (P.touch L).2 with bits := B } : TS).Ok := by
 have e : P.touch L = (0, P.over L) := by
  unfold TS.touch at he ⊢
  split
  ·rename_i hc; rw [if_pos hc] at he; cases he
  ·rfl
 have hc : P.cnt + (L.filter fun x => !P.d x.1).length <= 48 := by
  unfold TS.touch at he
  split at he
  ·cases he
  ·omega
 rw [e]
 obtain ⟨o1, o2, o3, o4, o5⟩ := P.over_n L
 have hin : ∀ i, (∃ x ∈ L, x.1 = i) \/ ∀ x ∈ L, x.1 ≠ i := fun i => by
  by_cases hx : ∃ x ∈ L, x.1 = i
  ·exact .inl hx
  ·exact .inr fun x hx' e => hx ⟨x, hx', e⟩
 refine ⟨by dsimp only; rw [o1]; exact h.n0, by dsimp only; rw [o1]; exact h.n1, fun i hi => ?_, fun hs => ?_, fun i hi => ?_, fun i => ?_, fun i => ?_, by dsimp only; rw [o1]; exact hB.symm, by dsimp only; rw [o1, o2, o4]; exact h.mH, fun i hi => ?_, fun i hi => ?_, ?_⟩
 ·dsimp only at hi ⊢
  rcases hin i with ⟨x, hx, rfl⟩ | hx
  ·rw [(over_at P L hn x hx).2] at hi; cases hi
  ·rw [(over_not P L i hx).2] at hi
   rw [(over_not P L i hx).1, o2]; exact h.same i hi
 ·dsimp only at hs
  rw [o5, hop] at hs; cases hs
 ·dsimp only at hi ⊢
  rw [o1]
  rcases hin i with ⟨x, hx, rfl⟩ | hx
  ·exact ⟨(hr x hx).1, (hr x hx).2.1⟩
  ·rw [(over_not P L i hx).2] at hi; exact h.rng i hi
 ·dsimp only
  rcases hin i with ⟨x, hx, rfl⟩ | hx
  ·rw [(over_at P L hn x hx).1]; exact (hr x hx).2.2
  ·rw [(over_not P L i hx).1]; exact h.st i
 ·dsimp only; rw [o2]; exact h.sH i
 ·dsimp only at hi ⊢; rw [o1] at hi; rw [o4]; exact ⟨low i hi, (h.low i hi).2⟩
 ·dsimp only at hi ⊢; rw [o1] at hi; rw [o4]; exact ⟨high i hi, (h.high i hi).2⟩
 ·have := cnt_over P L hn
  show (P.over L).cnt <= 48
  omega
theorem turned_mem {n : Nat} {was B : List UInt8} {x : Int × ByteArray} (h : x ∈ turnedM n was B) : ∃ k, k < nbM n /\ blkM B k ≠ blkM was k /\ x = (((63 + k : Nat) : Int), txt (blkM B k)) := by
 unfold turnedM at h
 obtain ⟨k, hk, rfl⟩ := List.mem_map.1 h
 obtain ⟨h1, h2⟩ := List.mem_filter.1 hk
 exact ⟨k, List.mem_range.1 h1, by simpa using h2, rfl⟩
theorem turned_nodup (n : Nat) (was B : List UInt8) : ((turnedM n was B).map fun x => x.1).Nodup := by
 unfold turnedM
 rw [List.map_map]
 refine List.pairwise_map.2 ?_
 exact (List.nodup_range.sublist List.filter_sublist).imp fun h e => h (by simp only [Function.comp_apply] at e; omega)
theorem Ok.turned {P : TS} (h : P.Ok) (B : List UInt8) (hB : B.length = 256 * nbM P.n) : mapT P.n (P.over (turnedM P.n P.bits B)).t = B := by
 refine mapT_of _ _ _ hB fun k hk => ?_
 by_cases e : blkM B k = blkM P.bits k
 ·have h1 := (over_not P (turnedM P.n P.bits B) ((63 + k : Nat) : Int) fun x hx he => by
   obtain ⟨k', _, h3, rfl⟩ := turned_mem hx
   dsimp only at he
   obtain rfl : k' = k := by omega
   exact h3 e).1
  rw [h1, <- mapT_blk _ _ h.st k hk, <- h.mt, e]
 ·have hx : (((63 + k : Nat) : Int), txt (blkM B k)) ∈ turnedM P.n P.bits B := List.mem_map.2 ⟨k, List.mem_filter.2 ⟨List.mem_range.2 hk, by simpa using e⟩, rfl⟩
  rw [(over_at P _ (turned_nodup _ _ _) _ hx).1]
  rfl
theorem Ok.len {P : TS} (h : P.Ok) : P.bits.length = 256 * nbM P.n := by rw [h.mt]; exact mapT_len _ _ h.st
theorem Ok.turn {P : TS} (h : P.Ok) (hop : P.op = true) (a c : Nat) (on : Bool) (h1 : firstD P.n <= a) (h2 : a + c <= P.n) : (P.turn a c on).2.Ok := by
 have hl := h.len
 have hfit : a + c <= 8 * P.bits.length := by rw [hl]; unfold nbM; omega
 have hn8 : nbM P.n <= 2 := by have := h.n1; unfold nbM; omega
 have hn0 := h.n0
 unfold TS.turn
 dsimp only
 generalize hq : P.touch (turnedM P.n P.bits (stL P.bits a on c)) = q
 obtain ⟨e, Q⟩ := q
 dsimp only
 split
 ·exact h
 ·rename_i he
  have he : e = 0 := by simpa using he
  subst he
  have hB := stL_length P.bits a c on
  have := h.touched hop (turnedM P.n P.bits (stL P.bits a on c)) (stL P.bits a on c) (turned_nodup _ _ _) (fun x hx => ?_) (h.turned _ (by rw [hB, hl])) (fun i hi => ?_) (fun i hi => ?_) (by rw [hq])
  ·rw [hq] at this; exact this
  ·obtain ⟨k, hk, _, rfl⟩ := turned_mem hx
   refine ⟨by dsimp only; omega, by dsimp only; omega, ?_⟩
   show (blkM _ k).toArray.size = 256
   rw [List.size_toArray]
   exact blk_len (by rw [hB, hl]) hk
  ·rw [bt_stL _ _ _ _ _ hfit, if_neg (by omega)]; exact (h.low i hi).1
  ·rw [bt_stL _ _ _ _ _ hfit, if_neg (by omega)]; exact (h.high i hi).1
theorem Ok.write {P : TS} (h : P.Ok) (i : Int) (s : ByteArray) : (P.write i s).2.Ok := by
 unfold TS.write
 split
 ·exact h
 ·rename_i hop
  split
  ·exact h
  ·rename_i hd
   split
   ·exact h
   ·split
    ·exact h
    ·rename_i hs
     have hop : P.op = true := by simpa using hop
     have hd : (firstD P.n : Int) <= i /\ 1 <= (P.n : Int) - i := by
      have : P.data i 1 = true := by simpa using hd
      unfold TS.data at this
      simpa using this
     have hs : s.size = 256 := by simpa using hs
     have hf : 63 <= firstD P.n := by unfold firstD; omega
     by_cases he : (P.touch [(i, s)]).1 = 0
     ·have hmt : mapT P.n (P.over [(i, s)]).t = P.bits := by
       rw [h.mt]
       refine mapT_of _ _ _ (mapT_len _ _ h.st) fun k hk => ?_
       rw [(over_not P [(i, s)] ((63 + k : Nat) : Int) fun x hx e => by
        rw [List.mem_singleton.1 hx] at e
        dsimp only at e
        unfold firstD at hd
        omega).1, <- mapT_blk _ _ h.st k hk]
      have := h.touched hop [(i, s)] P.bits (by simp) (fun x hx => by rw [List.mem_singleton.1 hx]; exact ⟨by dsimp only; omega, by dsimp only; omega, hs⟩) hmt (fun i hi => (h.low i hi).1) (fun i hi => (h.high i hi).1) he
      have e2 : ({ (P.touch [(i, s)]).2 with bits := P.bits } : TS) = (P.touch [(i, s)]).2 := by
       have hb : (P.touch [(i, s)]).2.bits = P.bits := by
        unfold TS.touch
        split
        ·rfl
        ·exact (P.over_n _).2.2.1
       rw [<- hb]
      rw [e2] at this
      exact this
     ·have : (P.touch [(i, s)]).2 = P := by
       unfold TS.touch at he ⊢
       split
       ·rfl
       ·rename_i hc; rw [if_neg hc] at he; exact absurd rfl he
      rw [this]; exact h
theorem turn_op {P : TS} (a c : Nat) (on : Bool) : (P.turn a c on).2.op = P.op := by
 unfold TS.turn
 dsimp only
 generalize hq : P.touch (turnedM P.n P.bits (stL P.bits a on c)) = q
 obtain ⟨e, Q⟩ := q
 dsimp only
 split
 ·rfl
 ·show Q.op = P.op
  unfold TS.touch at hq
  split at hq
  ·cases hq; rfl
  ·cases hq; exact (P.over_n _).2.2.2.2
theorem Ok.release {P : TS} (h : P.Ok) (a c : Int) : (P.release a c).2.Ok := by
 unfold TS.release
 split
 ·exact h
 ·rename_i hop
  split
  ·exact h
  ·rename_i hd
   split
   ·exact h
   ·have hop : P.op = true := by simpa using hop
    have hd : 1 <= c /\ (firstD P.n : Int) <= a /\ c <= (P.n : Int) - a := by
     have h1 : ¬ c < 1 := fun e => hd (.inl e)
     have h2 : P.data a c = true := by
      cases hq : P.data a c with
      | true => rfl
      | false => exact absurd (.inr hq) hd
     unfold TS.data at h2
     simp only [Bool.and_eq_true, decide_eq_true_eq] at h2
     omega
    exact h.turn hop a.toNat c.toNat false (by omega) (by omega)
theorem Ok.fit_data {P : TS} (h : P.Ok) {c a : Nat} (hf : fit P.bits P.n c = some a) : 1 <= c /\ firstD P.n <= a /\ a + c <= P.n /\ ∀ k, a <= k -> k < a + c -> bt P.bits k = false := by
 obtain ⟨h1, h2, h3⟩ := fits_iff.1 (fit_is hf).1
 refine ⟨h1, ?_, h2, h3⟩
 apply Decidable.byContradiction
 intro hh
 have := (h.low a (by omega)).1
 rw [h3 a (Nat.le_refl _) (by omega)] at this
 cases this
theorem Ok.alloc {P : TS} (h : P.Ok) (c : Int) : (P.alloc c).2.Ok := by
 unfold TS.alloc
 split
 ·exact h
 ·rename_i hop
  have hop : P.op = true := by simpa using hop
  split
  ·exact h
  ·cases hf : fit P.bits P.n c.toNat with
   | none => exact h
   | some a =>
    obtain ⟨_, h2, h3, _⟩ := h.fit_data hf
    have ht := h.turn hop a c.toNat true h2 h3
    dsimp only
    generalize P.turn a c.toNat true = q at ht ⊢
    obtain ⟨e, Q⟩ := q
    dsimp only
    split
    ·exact h
    ·exact ht
theorem Ok.shut_is {P : TS} (h : P.Ok) (ho : P.op = false) : (∀ i, P.t i = P.H i) /\ P.bits = P.keep := by
 have ht : ∀ i, P.t i = P.H i := fun i => h.same i (h.shut ho i)
 refine ⟨ht, ?_⟩
 rw [h.mt, h.mH]
 congr 1
 funext i
 exact ht i
theorem turned_few (n : Nat) (was B : List UInt8) : (turnedM n was B).length <= nbM n := by
 unfold turnedM
 rw [List.length_map]
 exact Nat.le_trans (List.length_filter_le _ _) (by rw [List.length_range]; exact Nat.le_refl _)
theorem turn_ok {P : TS} (hc : P.cnt + nbM P.n <= 48) (a c : Nat) (on : Bool) : (P.turn a c on).1 = 0 /\ (P.turn a c on).2.bits = stL P.bits a on c /\ (P.turn a c on).2.keep = P.keep /\ (P.turn a c on).2.H = P.H /\ (P.turn a c on).2.n = P.n := by
 have hl := turned_few P.n P.bits (stL P.bits a on c)
 have hf := List.length_filter_le (fun x : Int × ByteArray => !P.d x.1) (turnedM P.n P.bits (stL P.bits a on c))
 have e : P.touch (turnedM P.n P.bits (stL P.bits a on c)) = (0, P.over (turnedM P.n P.bits (stL P.bits a on c))) := by
  unfold TS.touch
  rw [if_neg (by omega)]
 obtain ⟨o1, o2, o3, o4, o5⟩ := P.over_n (turnedM P.n P.bits (stL P.bits a on c))
 unfold TS.turn
 dsimp only
 rw [e]
 dsimp only
 rw [if_neg (by simp)]
 exact ⟨rfl, rfl, o4, o2, o1⟩
def used (P : TS) : Nat := (List.range P.n).countP fun i => decide (firstD P.n <= i) && bt P.bits i
theorem fr_count (l : List UInt8) (m : Nat) : fr l m = (List.range m).countP fun i => !bt l i := by
 induction m with
 | zero => rfl
 | succ m ih =>
  rw [fr, ih, List.range_succ, List.countP_append, List.countP_cons, List.countP_nil, Nat.zero_add]
  congr 1
  cases bt l m <;> rfl
theorem Ok.counts {P : TS} (h : P.Ok) : P.used + fr P.bits P.n = P.n - firstD P.n := by
 have hall : ∀ m, m <= P.n -> ((List.range m).countP fun i => decide (firstD P.n <= i) && bt P.bits i) + ((List.range m).countP fun i => !bt P.bits i) = m - firstD P.n := by
  intro m
  induction m with
  | zero => intro _; simp
  | succ m ih =>
   intro hm
   have := ih (by omega)
   rw [List.range_succ, List.countP_append, List.countP_append]
   have e : ∀ p : Nat -> Bool, List.countP p [m] = if p m = true then 1 else 0 := fun p => by rw [List.countP_cons, List.countP_nil, Nat.zero_add]
   rw [e, e]
   by_cases hf : firstD P.n <= m
   ·cases hb : bt P.bits m <;> simp [hf] <;> omega
   ·have := (h.low m (by omega)).1
    simp [hf, this]; omega
 rw [fr_count]
 exact hall _ (Nat.le_refl _)
end TS
end Go.Proofs.YthambopnmhkeeaaGreat
/- A store in plain lists: touch, as the program does it over a cache: what it counts, what it lays down. -/
namespace Go.Proofs.YthambopnmhkeeaaGreat.Ca
def tchL (D L : List (Int × ByteArray)) : List (Int × ByteArray) := L.foldl (fun T w => if T.any (fun t => decide (t.1 = w.1)) = true then T else T ++ [w]) D
theorem tch_snoc (D L : List (Int × ByteArray)) (w : Int × ByteArray) : tchL D (L ++ [w]) = if (tchL D L).any (fun t => decide (t.1 = w.1)) = true then tchL D L else tchL D L ++ [w] := by
 unfold tchL; rw [List.foldl_append]; rfl
theorem tch_len (D L : List (Int × ByteArray)) (hn : (L.map fun x => x.1).Nodup) : (tchL D L).length = D.length + (L.filter fun x => !D.any (fun t => decide (t.1 = x.1))).length := by
 induction L generalizing D with
 | nil => rfl
 | cons w r ih =>
  obtain ⟨h1, h2⟩ := List.nodup_cons.1 (show (w.1 :: r.map fun x => x.1).Nodup from hn)
  show (tchL (if D.any (fun t => decide (t.1 = w.1)) = true then D else D ++ [w]) r).length = _
  rw [ih _ h2]
  by_cases h : D.any (fun t => decide (t.1 = w.1)) = true
  ·rw [if_pos h, List.filter_cons_of_neg (by rw [h]; simp)]
  ·rw [if_neg h, List.filter_cons_of_pos (by rw [Bool.eq_false_iff.2 h]; rfl), List.length_append, List.length_cons, List.length_nil, List.length_cons]
   have e : (r.filter fun x => !(D ++ [w]).any (fun t => decide (t.1 = x.1))) = r.filter fun x => !D.any (fun t => decide (t.1 = x.1)) := List.filter_congr fun x hx => by
    have hne : w.1 ≠ x.1 := fun e => h1 (e ▸ List.mem_map.2 ⟨x, hx, rfl⟩)
    rw [List.any_append, List.any_cons, List.any_nil]
    simp [hne]
   rw [e]
   omega
theorem Kc.touched {C : CS} {P : TS} (h : Kc C P.t P.d) (hd : ∀ i, P.d i = true -> 0 <= i /\ i < P.n) (L : List (Int × ByteArray)) (hn : (L.map fun x => x.1).Nodup) : (tchL C.dirty L).length = P.cnt + (L.filter fun x => !P.d x.1).length := by
 rw [tch_len _ _ hn, nd_dirty, h.count P.n hd]
 obtain ⟨_, hm⟩ := h.dirty
 have e : (L.filter fun x => !C.dirty.any (fun t => decide (t.1 = x.1))) = L.filter fun x => !P.d x.1 := List.filter_congr fun x _ => by
  congr 1
  rw [Bool.eq_iff_iff, List.any_eq_true]
  constructor
  ·rintro ⟨y, hy, e⟩
   have e : y.1 = x.1 := by simpa using e
   rw [<- e]; exact ((hm y).1 hy).1
  ·intro hx
   exact ⟨(x.1, P.t x.1), (hm _).2 ⟨hx, rfl⟩, by simp⟩
 rw [e]
 rfl
def putsC (C : CS) (L : List (Int × ByteArray)) : CS := L.foldl (fun C x => (C.put x.1 x.2).2) C
theorem Kc.puts {C : CS} {P : TS} (h : Kc C P.t P.d) (L : List (Int × ByteArray)) (hn : (L.map fun x => x.1).Nodup) (hs : ∀ x ∈ L, x.2.size = 256 /\ -9223372036854775808 <= x.1 /\ x.1 <= 9223372036854775807) (hm : C.nd + (L.filter fun x => !P.d x.1).length < C.most)
  (k : Nat) (hk : k <= L.length) : Kc (putsC C (L.take k)) (P.over (L.take k)).t (P.over (L.take k)).d /\ (putsC C (L.take k)).nd = C.nd + ((L.take k).filter fun x => !P.d x.1).length /\ (putsC C (L.take k)).most = C.most /\ (putsC C (L.take k)).misses = C.misses /\ ∀ hk : k < L.length, ((putsC C (L.take k)).put L[k].1 L[k].2).1 = 0 := by
 have hle : ∀ k, ((L.take k).filter fun x => !P.d x.1).length <= (L.filter fun x => !P.d x.1).length := fun k => ((List.take_sublist k L).filter _).length_le
 have step : ∀ k (hk : k < L.length), Kc (putsC C (L.take k)) (P.over (L.take k)).t (P.over (L.take k)).d -> (putsC C (L.take k)).nd = C.nd + ((L.take k).filter fun x => !P.d x.1).length -> (putsC C (L.take k)).most = C.most -> (putsC C (L.take k)).misses = C.misses ->
   ((putsC C (L.take k)).put L[k].1 L[k].2).1 = 0 /\ Kc (putsC C (L.take (k + 1))) (P.over (L.take (k + 1))).t (P.over (L.take (k + 1))).d /\ (putsC C (L.take (k + 1))).nd = C.nd + ((L.take (k + 1)).filter fun x => !P.d x.1).length /\ (putsC C (L.take (k + 1))).most = C.most /\ (putsC C (L.take (k + 1))).misses = C.misses := by
  intro k hk g1 g2 g3 g4
  have hx := hs L[k] (List.getElem_mem hk)
  obtain ⟨p1, p2, p3, p4, p5⟩ := g1.put L[k].1 ⟨hx.2.1, hx.2.2⟩ (by rw [g2, g3]; have := hle k; omega) L[k].2 hx.1
  have et : L.take (k + 1) = L.take k ++ [L[k]] := List.take_succ_eq_append_getElem hk
  have e1 : putsC C (L.take (k + 1)) = ((putsC C (L.take k)).put L[k].1 L[k].2).2 := by unfold putsC; rw [et, List.foldl_append]; rfl
  have e2 : P.over (L.take (k + 1)) = { P.over (L.take k) with t := fun j => if j = L[k].1 then L[k].2 else (P.over (L.take k)).t j, d := fun j => if j = L[k].1 then true else (P.over (L.take k)).d j } := by
   unfold TS.over; rw [et, List.foldl_append]; rfl
  have hnot : ∀ x ∈ L.take k, x.1 ≠ L[k].1 := fun x hx e => by
   obtain ⟨j, hj, rfl⟩ := List.getElem_of_mem hx
   rw [List.getElem_take] at e
   have hjk : j < k := by rw [List.length_take] at hj; omega
   have := (List.pairwise_iff_getElem.1 hn) j k (by rw [List.length_map]; omega) (by rw [List.length_map]; exact hk) hjk
   rw [List.getElem_map, List.getElem_map] at this
   exact this e
  have hdk := (P.over_not (L.take k) L[k].1 hnot).2
  refine ⟨p1, ?_, ?_, by rw [e1, p4, g3], by rw [e1, p5, g4]⟩
  ·rw [e1, e2]; exact p2
  ·rw [e1, p3, hdk, g2, et, List.filter_append, List.length_append]
   cases hd : P.d L[k].1
   ·rw [List.filter_cons_of_pos (by rw [hd]; rfl)]; simp; omega
   ·rw [List.filter_cons_of_neg (by rw [hd]; simp)]; simp
 have all : ∀ k, k <= L.length -> Kc (putsC C (L.take k)) (P.over (L.take k)).t (P.over (L.take k)).d /\ (putsC C (L.take k)).nd = C.nd + ((L.take k).filter fun x => !P.d x.1).length /\ (putsC C (L.take k)).most = C.most /\ (putsC C (L.take k)).misses = C.misses := by
  intro k
  induction k with
  | zero => intro _; exact ⟨h, rfl, rfl, rfl⟩
  | succ k ih =>
   intro hk
   obtain ⟨g1, g2, g3, g4⟩ := ih (by omega)
   exact (step k (by omega) g1 g2 g3 g4).2
 obtain ⟨g1, g2, g3, g4⟩ := all k hk
 exact ⟨g1, g2, g3, g4, fun hk => (step k hk g1 g2 g3 g4).1⟩
end Go.Proofs.YthambopnmhkeeaaGreat.Ca
/- A store in plain lists: what a store's state is, and what StoreStates, StoreCounts and StoreOthers ask, of plain lists. -/
namespace Go.Proofs.YthambopnmhkeeaaGreat
open Bm
namespace TS
def stateL (P : TS) : List UInt8 := (List.range P.n).flatMap fun i => if firstD P.n <= i /\ bt P.bits i = true then UInt8.ofNat i :: UInt8.ofNat (i / 256) :: (P.t (i : Int)).data.toList else []
theorem state_same {P Q : TS} (h1 : Q.n = P.n) (h2 : Q.bits = P.bits) (h3 : ∀ i : Nat, firstD P.n <= i -> Q.t (i : Int) = P.t (i : Int)) : Q.stateL = P.stateL := by
 unfold stateL
 rw [h1, h2]
 congr 1
 funext i
 by_cases hi : firstD P.n <= i /\ bt P.bits i = true
 ·rw [if_pos hi, if_pos hi, h3 i hi.1]
 ·rw [if_neg hi, if_neg hi]
def Kept (P Q : TS) : Prop := Q.n = P.n /\ Q.H = P.H /\ Q.keep = P.keep
theorem Kept.refl (P : TS) : Kept P P := ⟨rfl, rfl, rfl⟩
theorem Kept.trans {P Q R : TS} (h : Kept P Q) (g : Kept Q R) : Kept P R := ⟨g.1.trans h.1, g.2.1.trans h.2.1, g.2.2.trans h.2.2⟩
theorem kept_touch (P : TS) (L : List (Int × ByteArray)) : Kept P (P.touch L).2 := by
 unfold touch
 split
 ·exact Kept.refl P
 ·obtain ⟨o1, o2, _, o4, _⟩ := P.over_n L
  exact ⟨o1, o2, o4⟩
theorem kept_turn (P : TS) (a c : Nat) (on : Bool) : Kept P (P.turn a c on).2 := by
 have := kept_touch P (turnedM P.n P.bits (stL P.bits a on c))
 unfold turn
 dsimp only
 generalize P.touch (turnedM P.n P.bits (stL P.bits a on c)) = q at this ⊢
 obtain ⟨e, Q⟩ := q
 dsimp only
 split
 ·exact Kept.refl P
 ·exact this
theorem kept_write (P : TS) (i : Int) (s : ByteArray) : Kept P (P.write i s).2 := by
 unfold write
 split
 ·exact Kept.refl P
 ·split
  ·exact Kept.refl P
  ·split
   ·exact Kept.refl P
   ·split
    ·exact Kept.refl P
    ·exact kept_touch _ _
theorem kept_alloc (P : TS) (c : Int) : Kept P (P.alloc c).2 := by
 unfold alloc
 split
 ·exact Kept.refl P
 ·split
  ·exact Kept.refl P
  ·cases fit P.bits P.n c.toNat with
   | none => exact Kept.refl P
   | some a =>
    have := kept_turn P a c.toNat true
    dsimp only
    generalize P.turn a c.toNat true = q at this ⊢
    obtain ⟨e, Q⟩ := q
    dsimp only
    split
    ·exact Kept.refl P
    ·exact this
theorem kept_release (P : TS) (a c : Int) : Kept P (P.release a c).2 := by
 unfold release
 split
 ·exact Kept.refl P
 ·split
  ·exact Kept.refl P
  ·split
   ·exact Kept.refl P
   ·exact kept_turn _ _ _ _
theorem undo_state {P Q : TS} (h : P.Ok) (ho : P.op = false) (hk : Kept P Q) : Q.undo.stateL = P.stateL := by
 obtain ⟨h1, h2, h3⟩ := hk
 obtain ⟨s1, s2⟩ := h.shut_is ho
 exact state_same h1 (h3.trans s2.symm) fun i _ => by show Q.H _ = _; rw [h2, s1]
theorem states {P : TS} (ho : P.op = false) (c : Int) (i : Int) (s : ByteArray) : P.alloc c = ((0, 15), P) /\ P.write i s = (15, P) /\ P.release i c = (15, P) /\ P.commit = (15, P) /\
  P.begin_ = (0, { P with op := true }) /\ ({ P with op := true } : TS).begin_ = (15, { P with op := true }) /\ (({ P with op := true } : TS).commit).1 = 0 /\ (({ P with op := true } : TS).commit).2.stateL = P.stateL := by
 refine ⟨by unfold alloc; rw [if_pos ho], by unfold write; rw [if_pos ho], by unfold release; rw [if_pos ho], by unfold commit; rw [if_pos ho], by unfold begin_; rw [if_neg (by rw [ho]; simp)], by unfold begin_; rw [if_pos rfl], ?_, ?_⟩
 ·unfold commit; rw [if_neg (by simp)]
 ·unfold commit; rw [if_neg (by simp)]
  exact state_same rfl rfl fun _ _ => rfl
theorem alloc_fresh {P : TS} (h : P.Ok) (ho : P.op = true) (hc : P.cnt = 0) (k : Nat) (hk : 1 <= k) :
  (fit P.bits P.n k = none /\ P.alloc k = ((0, 9), P)) \/ ∃ a, fit P.bits P.n k = some a /\ P.alloc k = (((a : Int), 0), (P.turn a k true).2) /\ firstD P.n <= a /\ a + k <= P.n /\ (P.turn a k true).2.bits = stL P.bits a true k /\ (P.turn a k true).2.n = P.n /\ (P.turn a k true).2.op = true /\ (P.turn a k true).2.Ok /\ (P.turn a k true).2.cnt <= nbM P.n := by
 have hn8 : nbM P.n <= 2 := by have := h.n1; unfold nbM; omega
 cases hf : fit P.bits P.n k with
 | none =>
  left
  refine ⟨rfl, ?_⟩
  unfold alloc
  rw [if_neg (by rw [ho]; simp), if_neg (by omega), Int.toNat_natCast, hf]
 | some a =>
  right
  obtain ⟨_, g2, g3, g4⟩ := h.fit_data hf
  obtain ⟨t1, t2, _, _, t5⟩ := turn_ok (P := P) (by omega) a k true
  refine ⟨a, rfl, ?_, g2, g3, t2, t5, by rw [turn_op]; exact ho, h.turn ho a k true g2 g3, ?_⟩
  ·unfold alloc
   rw [if_neg (by rw [ho]; simp), if_neg (by omega), Int.toNat_natCast, hf]
   dsimp only
   generalize P.turn a k true = q at t1 ⊢
   obtain ⟨e, Q⟩ := q
   dsimp only at t1 ⊢
   rw [if_neg (by omega)]
  ·have hl := turned_few P.n P.bits (stL P.bits a true k)
   have hff := List.length_filter_le (fun x : Int × ByteArray => !P.d x.1) (turnedM P.n P.bits (stL P.bits a true k))
   have hov := cnt_over P (turnedM P.n P.bits (stL P.bits a true k)) (turned_nodup _ _ _)
   have e : P.touch (turnedM P.n P.bits (stL P.bits a true k)) = (0, P.over (turnedM P.n P.bits (stL P.bits a true k))) := by
    unfold touch
    rw [if_neg (by omega)]
   unfold turn
   dsimp only
   rw [e]
   dsimp only
   rw [if_neg (by simp)]
   show (P.over _).cnt <= _
   omega
theorem alloc_release {P : TS} (h : P.Ok) (ho : P.op = true) (hc : P.cnt = 0) (k a : Nat) (hf : fit P.bits P.n k = some a) (hk : 1 <= k) :
  fr (P.turn a k true).2.bits P.n + k = fr P.bits P.n /\ ((P.turn a k true).2.release a k).1 = 0 /\ ((P.turn a k true).2.release a k).2.bits = P.bits := by
 have hn8 : nbM P.n <= 2 := by have := h.n1; unfold nbM; omega
 rcases alloc_fresh h ho hc k hk with ⟨e, _⟩ | ⟨a', e, _, g2, g3, gb1, gn, gop, gok, gc⟩
 ·rw [e] at hf; cases hf
 ·rw [e] at hf; cases hf
  obtain ⟨_, _, _, g4⟩ := h.fit_data e
  have hl := h.len
  have hfit : a + k <= 8 * P.bits.length := by rw [hl]; unfold nbM; omega
  have hfr := fr_stL P.bits a k P.n hfit g3 g4
  obtain ⟨t1, t2, _, _, _⟩ := turn_ok (P := (P.turn a k true).2) (by rw [gn]; omega) a k false
  refine ⟨by rw [gb1]; exact hfr, ?_⟩
  have er : (P.turn a k true).2.release a k = (P.turn a k true).2.turn a k false := by
   unfold release
   rw [if_neg (by rw [gop]; simp), if_neg, if_neg]
   ·rw [Int.toNat_natCast, Int.toNat_natCast]
   ·intro hh
    have : (List.range ((k : Int)).toNat).all (fun j => gb (P.turn a k true).2.bits ((a : Int) + (j : Int))) = true := by
     rw [List.all_eq_true]
     intro j hj
     have hj' : j < k := by rw [List.mem_range] at hj; omega
     rw [show (a : Int) + (j : Int) = ((a + j : Nat) : Int) by omega, gb_nat, gb1, bt_stL _ _ _ _ _ hfit, if_pos (by omega)]
    rw [this] at hh; cases hh
   ·rintro (h1 | h1)
    ·omega
    ·unfold data at h1
     rw [gn] at h1
     simp at h1
     omega
  rw [er]
  refine ⟨t1, ?_⟩
  rw [t2, gb1]
  exact stL_back _ _ _ hfit g4
def usedL (P : TS) : List Nat := (List.range P.n).filter fun i => decide (firstD P.n <= i) && bt P.bits i
def chunk (t : Int -> ByteArray) (i : Nat) : List UInt8 := UInt8.ofNat i :: UInt8.ofNat (i / 256) :: (t (i : Int)).data.toList
theorem state_used (P : TS) : P.stateL = P.usedL.flatMap (chunk P.t) := by
 have hg : ∀ (l : List Nat), (l.flatMap fun i => if firstD P.n <= i /\ bt P.bits i = true then chunk P.t i else []) = (l.filter fun i => decide (firstD P.n <= i) && bt P.bits i).flatMap (chunk P.t) := by
  intro l
  induction l with
  | nil => rfl
  | cons i r ih =>
   rw [List.flatMap_cons, ih]
   by_cases hi : firstD P.n <= i /\ bt P.bits i = true
   ·rw [if_pos hi, List.filter_cons_of_pos (by simp [hi.1, hi.2]), List.flatMap_cons]
   ·rw [if_neg hi, List.filter_cons_of_neg (by simpa using hi)]
    rfl
 exact hg _
theorem flat_at (l : List Nat) (g : Nat -> List UInt8) (hg : ∀ j, (g j).length = 258) : (l.flatMap g).length = 258 * l.length /\ ∀ q (h : q < l.length), ((l.flatMap g).drop (258 * q)).take 258 = g l[q] := by
 induction l with
 | nil => exact ⟨rfl, fun q h => absurd h (Nat.not_lt_zero _)⟩
 | cons x r ih =>
  obtain ⟨h1, h2⟩ := ih
  have hx := hg x
  refine ⟨by rw [List.flatMap_cons, List.length_append, h1, List.length_cons, hx]; omega, fun q h => ?_⟩
  rw [List.flatMap_cons]
  cases q with
  | zero => rw [Nat.mul_zero, List.drop_zero, <- hx, List.take_left]; rfl
  | succ q =>
   rw [show 258 * (q + 1) = (g x).length + 258 * q by omega, <- List.drop_drop, List.drop_left]
   exact h2 q (by simpa using h)
theorem chunk_len (t : Int -> ByteArray) (h : ∀ i, (t i).size = 256) (i : Nat) : (chunk t i).length = 258 := by
 unfold chunk
 rw [List.length_cons, List.length_cons, Array.length_toList]
 have := h (i : Int)
 show (t _).size + 1 + 1 = 258
 omega
theorem chunk_num (t : Int -> ByteArray) (i : Nat) (h : i < 65536) : ((chunk t i).getD 0 0).toNat + 256 * ((chunk t i).getD 1 0).toNat = i := by
 unfold chunk
 simp only [List.getD_cons_zero, List.getD_cons_succ, UInt8.toNat_ofNat']
 omega
theorem write_used {P : TS} (ho : P.op = true) (hc : P.cnt <= 47) (i : Nat) (h1 : firstD P.n <= i) (h2 : i < P.n) (hb : bt P.bits i = true) (s : ByteArray) (hs : s.size = 256) :
  P.write (i : Int) s = (0, P.over [((i : Int), s)]) /\ (P.over [((i : Int), s)]).t i = s /\ (∀ j : Int, j ≠ i -> (P.over [((i : Int), s)]).t j = P.t j) /\ (P.over [((i : Int), s)]).bits = P.bits /\ (P.over [((i : Int), s)]).n = P.n := by
 obtain ⟨o1, _, o3, _, _⟩ := P.over_n [((i : Int), s)]
 refine ⟨?_, (over_at P [((i : Int), s)] (by simp) ((i : Int), s) (by simp)).1, fun j hj => (over_not P _ j fun x hx e => hj (by rw [List.mem_singleton.1 hx] at e; exact e.symm)).1, o3, o1⟩
 have hl : (([((i : Int), s)] : List (Int × ByteArray)).filter fun x => !P.d x.1).length <= 1 := List.length_filter_le _ _
 unfold write data touch
 rw [if_neg (by rw [ho]; simp), if_neg (by simp; omega), if_neg (by rw [gb_nat, hb]; simp), if_neg (by omega), if_neg (by omega)]
theorem state_one {P Q : TS} (hn : P.n <= 65536) (hP : ∀ i, (P.t i).size = 256) (hQ : ∀ i, (Q.t i).size = 256) (h1 : Q.n = P.n) (h2 : Q.bits = P.bits) (k : Nat) (h3 : ∀ j : Int, j ≠ k -> Q.t j = P.t j) :
  Q.stateL.length = P.stateL.length /\ P.stateL.length = 258 * P.usedL.length /\ ∀ q, q < P.usedL.length ->
   ((P.stateL.drop (258 * q)).getD 0 0).toNat + 256 * ((P.stateL.drop (258 * q)).getD 1 0).toNat = P.usedL.getD q 0 /\ (P.usedL.getD q 0 ≠ k -> (Q.stateL.drop (258 * q)).take 258 = (P.stateL.drop (258 * q)).take 258) := by
 have hu : Q.usedL = P.usedL := by unfold usedL; rw [h1, h2]
 obtain ⟨a1, a2⟩ := flat_at P.usedL (chunk P.t) (chunk_len _ hP)
 obtain ⟨b1, b2⟩ := flat_at Q.usedL (chunk Q.t) (chunk_len _ hQ)
 rw [state_used P, state_used Q]
 refine ⟨by rw [a1, b1, hu], a1, fun q hq => ?_⟩
 have hgd : P.usedL.getD q 0 = P.usedL[q] := by simp [List.getD, hq]
 have hlt : P.usedL[q] < 65536 := by
  have := List.getElem_mem hq
  have := (List.mem_filter.1 this).1
  have := List.mem_range.1 this
  omega
 refine ⟨?_, fun hk => ?_⟩
 ·rw [hgd, <- chunk_num P.t _ hlt, <- a2 q hq]
  have e : ∀ (l : List UInt8) (i : Nat), i < 258 -> (l.take 258).getD i 0 = l.getD i 0 := fun l i hi => by simp [List.getD, hi]
  rw [e _ 0 (by omega), e _ 1 (by omega)]
 ·rw [a2 q hq, b2 q (by rw [hu]; exact hq)]
  have e : Q.usedL[q]'(by rw [hu]; exact hq) = P.usedL[q] := by simp [hu]
  rw [e]
  unfold chunk
  rw [h3 _ (by rw [hgd] at hk; omega)]
end TS
end Go.Proofs.YthambopnmhkeeaaGreat
/- A store in plain lists: the runs of what is turned round are the blocks that are used. -/
namespace Go.Proofs.YthambopnmhkeeaaGreat
open Bm
theorem rs_last {l : List UInt8} {k : Nat} (h0 : 0 < k) (hp : bt l (k - 1) = false) : ∃ R s c, rs l k = R ++ [(s, c)] /\ s + c = k := by
 have hok := rs_ok l k
 rcases List.eq_nil_or_concat (rs l k) with e | ⟨R, x, e⟩
 ·rw [e] at hok
  have := hok (k - 1) (by omega) (by omega)
  rw [hp] at this; cases this
 ·rw [List.concat_eq_append] at e
  refine ⟨R, x.1, x.2, e, ?_⟩
  rw [e] at hok
  have : ∀ (R : List (Nat × Nat)) (e : Int), RO l k e (R ++ [x]) -> x.1 + x.2 = k := by
   intro R
   induction R with
   | nil =>
    intro e h
    obtain ⟨_, h2, h3, _, _, _, h7, h8⟩ := h
    by_cases hh : x.1 + x.2 < k
    ·have h9 : ∀ q : Nat, ((x.1 + x.2 : Nat) : Int) < q -> q < k -> bt l q = true := h8
     by_cases e1 : x.1 + x.2 = k - 1
     ·have := h7 hh; rw [e1, hp] at this; cases this
     ·have := h9 (k - 1) (by omega) (by omega); rw [hp] at this; cases this
    ·omega
   | cons y R ih =>
    intro e h
    exact ih _ h.2.2.2.2.2.2.2
  exact this R _ hok
theorem rs_blocks (l : List UInt8) (m : Nat) : (rs l m).flatMap (fun x => List.range' x.1 x.2) = (List.range m).filter fun i => !bt l i := by
 induction m with
 | zero => rfl
 | succ m ih =>
  rw [List.range_succ, List.filter_append, rs]
  by_cases h : bt l m = true
  ·rw [if_pos h, ih, List.filter_cons_of_neg (by rw [h]; simp)]; simp
  ·have hb : bt l m = false := by simpa using h
   rw [if_neg h, List.filter_cons_of_pos (by rw [hb]; rfl), List.filter_nil]
   by_cases h2 : m = 0 \/ bt l (m - 1) = true
   ·rw [if_pos h2, bump_snoc, List.flatMap_append, ih]
    simp
   ·rw [if_neg h2]
    obtain ⟨R, s, c, e, hsc⟩ := rs_last (l := l) (k := m) (by omega) (by cases hq : bt l (m - 1) with | false => rfl | true => exact absurd (.inr hq) h2)
    rw [e] at ih ⊢
    rw [bump_snoc]
    rw [List.flatMap_append] at ih ⊢
    simp only [List.flatMap_cons, List.flatMap_nil, List.append_nil] at ih ⊢
    rw [List.range'_concat, <- List.append_assoc, ih]
    congr 2
    omega
def turnB (l : List UInt8) : List UInt8 := l.map fun b => ~~~b
theorem not_bits_all : ∀ b : Fin 256, ∀ k : Fin 8, (~~~(UInt8.ofNat b.1)).toNat.testBit k.1 = !b.1.testBit k.1 := by decide +kernel
theorem bt_turnB (l : List UInt8) (i : Nat) (h : i < 8 * l.length) : bt (turnB l) i = !bt l i := by
 have hq : i / 8 < l.length := by omega
 unfold bt turnB
 have e1 : (l.map fun b => ~~~b).getD (i / 8) 0 = ~~~l[i / 8] := by simp [List.getD, hq]
 have e2 : l.getD (i / 8) 0 = l[i / 8] := by simp [List.getD, hq]
 rw [e1, e2]
 have := not_bits_all ⟨l[i / 8].toNat, l[i / 8].toNat_lt⟩ ⟨i % 8, by omega⟩
 simpa using this
namespace TS
theorem Ok.used_runs {P : TS} (h : P.Ok) : (rs (stL (turnB P.bits) 0 true (firstD P.n)) P.n).flatMap (fun x => List.range' x.1 x.2) = P.usedL := by
 have hl := h.len
 have hn0 := h.n0
 have hn1 := h.n1
 have hlt : (turnB P.bits).length = 256 * nbM P.n := by unfold turnB; rw [List.length_map]; exact hl
 have hf : 0 + firstD P.n <= 8 * (turnB P.bits).length := by rw [hlt]; unfold firstD nbM; omega
 rw [rs_blocks]
 unfold usedL
 refine List.filter_congr fun i hi => ?_
 have hi := List.mem_range.1 hi
 have hi8 : i < 8 * P.bits.length := by rw [hl]; unfold nbM; omega
 rw [bt_stL _ _ _ _ _ hf]
 by_cases h1 : firstD P.n <= i
 ·rw [if_neg (by omega), bt_turnB _ _ hi8]; simp [h1]
 ·rw [if_pos (by omega)]; simp [h1]
theorem tot_blocks (R : List (Nat × Nat)) : tot R = (R.flatMap fun x => List.range' x.1 x.2).length := by
 unfold tot
 induction R with
 | nil => rfl
 | cons x r ih => rw [List.map_cons, List.sum_cons, List.flatMap_cons, List.length_append, List.length_range', ih]
theorem Ok.used_tot {P : TS} (h : P.Ok) : tot (rs (stL (turnB P.bits) 0 true (firstD P.n)) P.n) + fr P.bits P.n = P.n - firstD P.n := by
 rw [tot_blocks, h.used_runs]
 have := h.counts
 unfold usedL
 rw [<- List.countP_eq_length_filter]
 exact this
def emptyM (n : Nat) : List UInt8 := stL (List.replicate (256 * nbM n) 0) 0 true (firstD n)
theorem empty_len (n : Nat) : (emptyM n).length = 256 * nbM n := by unfold emptyM; rw [stL_length, List.length_replicate]
theorem bt_zero (m i : Nat) : bt (List.replicate m 0) i = false := by
 unfold bt
 have : (List.replicate m (0 : UInt8)).getD (i / 8) 0 = 0 := by
  simp only [List.getD, List.getElem?_replicate]; split <;> rfl
 rw [this]; simp
theorem empty_bt (n : Nat) (h : firstD n <= n) (i : Nat) : bt (emptyM n) i = decide (i < firstD n) := by
 unfold emptyM
 rw [bt_stL _ _ _ _ _ (by rw [List.length_replicate]; unfold nbM; omega), bt_zero]
 by_cases h1 : i < firstD n
 ·rw [if_pos (by omega)]; simp [h1]
 ·rw [if_neg (by omega)]; simp [h1]
theorem right_map (n : Nat) (h0 : 128 <= n) (h1 : n <= 4096) (l : List UInt8) (hl : l.length = 256 * nbM n) : stL l (firstD n) false (n - firstD n) = emptyM n ↔ (∀ i, i < firstD n -> bt l i = true) /\ ∀ i, n <= i -> bt l i = false := by
 have hf : firstD n <= n := by unfold firstD nbM; omega
 have hfit : firstD n + (n - firstD n) <= 8 * l.length := by rw [hl]; unfold nbM; omega
 constructor
 ·intro e
  have hb : ∀ i, bt (stL l (firstD n) false (n - firstD n)) i = bt (emptyM n) i := fun i => by rw [e]
  refine ⟨fun i hi => ?_, fun i hi => ?_⟩
  ·have := hb i
   rw [bt_stL _ _ _ _ _ hfit, if_neg (by omega), empty_bt n hf] at this
   rw [this]; simp [hi]
  ·have := hb i
   rw [bt_stL _ _ _ _ _ hfit, if_neg (by omega), empty_bt n hf] at this
   rw [this]; simp; omega
 ·rintro ⟨a, b⟩
  refine bt_ext (by rw [stL_length, empty_len, hl]) fun i _ => ?_
  rw [bt_stL _ _ _ _ _ hfit, empty_bt n hf]
  by_cases h2 : i < firstD n
  ·rw [if_neg (by omega), a i h2]; simp [h2]
  ·by_cases h3 : n <= i
   ·rw [if_neg (by omega), b i h3]; simp [h2]
   ·rw [if_pos (by omega)]; simp [h2]
def opened (n : Nat) (H : Int -> ByteArray) : TS := ⟨n, H, H, fun _ => false, mapT n H, mapT n H, false⟩
theorem opened_ok (n : Nat) (H : Int -> ByteArray) (h0 : 128 <= n) (h1 : n <= 4096) (hs : ∀ i, (H i).size = 256) (hm : stL (mapT n H) (firstD n) false (n - firstD n) = emptyM n) : (opened n H).Ok := by
 obtain ⟨a, b⟩ := (right_map n h0 h1 _ (mapT_len n H hs)).1 hm
 refine ⟨h0, h1, fun _ _ => rfl, fun _ _ => rfl, (fun _ hi => by cases hi), hs, hs, rfl, rfl, fun i hi => ⟨a i hi, a i hi⟩, fun i hi => ⟨b i hi, b i hi⟩, ?_⟩
 have : (opened n H).cnt = 0 := List.countP_eq_zero.2 fun i _ => by show ¬ (false = true); simp
 omega
theorem Ok.open_same {P : TS} (h : P.Ok) (ho : P.op = false) : (opened P.n P.H).Ok /\ (opened P.n P.H).stateL = P.stateL /\ (opened P.n P.H).bits = P.bits := by
 obtain ⟨s1, s2⟩ := h.shut_is ho
 have hk : P.bits = mapT P.n P.H := s2.trans h.mH
 refine ⟨opened_ok P.n P.H h.n0 h.n1 h.sH ((right_map P.n h.n0 h.n1 _ (mapT_len _ _ h.sH)).2 ⟨fun i hi => ?_, fun i hi => ?_⟩), ?_, hk.symm⟩
 ·rw [<- h.mH]; exact (h.low i hi).2
 ·rw [<- h.mH]; exact (h.high i hi).2
 ·exact state_same rfl hk.symm fun i _ => (s1 _).symm
theorem fr_zero (l : List UInt8) (m : Nat) : fr l m = 0 ↔ ∀ i, i < m -> bt l i = true := by
 rw [fr_count, List.countP_eq_zero]
 constructor
 ·intro h i hi
  have := h i (List.mem_range.2 hi)
  simpa using this
 ·intro h i hi
  have := h i (List.mem_range.1 hi)
  simp [this]
end TS
end Go.Proofs.YthambopnmhkeeaaGreat
/- What StoreCounts and StoreOthers ask, of plain lists: the calls one behind the other. -/
namespace Go.Proofs.YthambopnmhkeeaaGreat
open Bm
namespace TS
theorem begin_n (P : TS) : P.begin_.2.n = P.n := by unfold begin_; split <;> rfl
theorem commit_n (P : TS) : P.commit.2.n = P.n := by unfold commit; split <;> rfl
theorem begin_H (P : TS) : P.begin_.2.H = P.H := by unfold begin_; split <;> rfl
theorem commit_H {P : TS} (h : P.Ok) : P.commit.2.H 62 = P.H 62 := by
 unfold commit
 split
 ·rfl
 ·show P.t 62 = P.H 62
  apply h.same
  cases hd : P.d 62 with
  | false => rfl
  | true => have := (h.rng 62 hd).1; omega
theorem begun {P : TS} (h : P.Ok) (ho : P.op = false) : ∃ P1, P.begin_ = (0, P1) /\ P1.Ok /\ P1.op = true /\ P1.cnt = 0 /\ Kept P P1 /\ P1.bits = P.bits /\ P1.t = P.t := by
 obtain ⟨_, _, _, _, b5, _⟩ := states ho 0 0 ⟨#[]⟩
 refine ⟨_, b5, ?_, rfl, ?_, ⟨rfl, rfl, rfl⟩, rfl, rfl⟩
 ·have := h.begin_; rw [b5] at this; exact this
 ·exact List.countP_eq_zero.2 fun i _ => by
   show ¬ (P.d _ = true)
   rw [h.shut ho]; simp
theorem pair_eq {α β : Type} {x : α × β} {a : α} (h : x.1 = a) : x = (a, x.2) := by rw [<- h]
theorem counts_math {P0 : TS} (h : P0.Ok) (ho : P0.op = false) (kn : Nat) : ∃ P1, P0.begin_ = (0, P1) /\ fr P1.bits P1.n = fr P0.bits P0.n /\
  ((∃ (a e : Int) (P2 : TS), P1.alloc ((1 + kn : Nat) : Int) = ((0, 9), P1) /\ P1.alloc 1 = ((a, e), P2) /\ P2.undo.stateL = P0.stateL) \/
   ∃ (a : Nat) (P2 P3 : TS) (a' e' : Int) (P4 : TS), P1.alloc ((1 + kn : Nat) : Int) = (((a : Int), 0), P2) /\ fr P2.bits P2.n + (1 + kn) = fr P0.bits P0.n /\ P2.release (a : Int) ((1 + kn : Nat) : Int) = (0, P3) /\ fr P3.bits P3.n = fr P0.bits P0.n /\ a <= P0.n /\ P3.alloc 1 = ((a', e'), P4) /\ P4.undo.stateL = P0.stateL) := by
 obtain ⟨P1, b1, ok1, op1, c1, k1, bb, _⟩ := begun h ho
 refine ⟨P1, b1, by rw [bb, k1.1], ?_⟩
 rcases alloc_fresh ok1 op1 c1 (1 + kn) (by omega) with ⟨e1, e2⟩ | ⟨a, e1, e2, g2, g3, gb, gn, gop, gok, gc⟩
 ·left
  exact ⟨(P1.alloc 1).1.1, (P1.alloc 1).1.2, (P1.alloc 1).2, e2, rfl, undo_state h ho (k1.trans (kept_alloc P1 1))⟩
 ·right
  obtain ⟨r1, r2, r3⟩ := alloc_release ok1 op1 c1 (1 + kn) a e1 (by omega)
  have ka : Kept P1 (P1.turn a (1 + kn) true).2 := kept_turn _ _ _ _
  generalize (P1.turn a (1 + kn) true).2 = P2 at *
  have kr := kept_release P2 (a : Int) ((1 + kn : Nat) : Int)
  have e3 := pair_eq r2
  generalize (P2.release (a : Int) ((1 + kn : Nat) : Int)).2 = P3 at *
  refine ⟨a, P2, P3, (P3.alloc 1).1.1, (P3.alloc 1).1.2, (P3.alloc 1).2, e2, ?_, e3, ?_, ?_, rfl, undo_state h ho (((k1.trans ka).trans kr).trans (kept_alloc P3 1))⟩
  ·rw [gn, r1, bb, k1.1]
  ·rw [r3, kr.1, gn, bb, k1.1]
  ·rw [k1.1] at g3; omega
theorem turn_t {P : TS} (a c : Nat) (on : Bool) (j : Int) (hj : (firstD P.n : Int) <= j) : (P.turn a c on).2.t j = P.t j := by
 have h1 : (P.over (turnedM P.n P.bits (stL P.bits a on c))).t j = P.t j := (over_not P _ j fun x hx e => by
  obtain ⟨k, hk, _, rfl⟩ := turned_mem hx
  unfold firstD at hj
  dsimp only at e
  omega).1
 have h2 : (P.touch (turnedM P.n P.bits (stL P.bits a on c))).2.t j = P.t j := by
  unfold touch
  split
  ·rfl
  ·exact h1
 unfold turn
 dsimp only
 generalize P.touch (turnedM P.n P.bits (stL P.bits a on c)) = q at h2 ⊢
 obtain ⟨e, Q⟩ := q
 dsimp only at h2 ⊢
 split
 ·rfl
 ·exact h2
theorem read_data {P : TS} (i : Nat) (h1 : firstD P.n <= i) (h2 : i < P.n) : P.read (i : Int) = (P.t i, 0) := by
 unfold read data
 rw [if_neg]
 simp
 omega
structure Oth7 (P1 P2 P3 P4 : TS) (a kn : Nat) (x s : ByteArray) (m : Nat) (u : Nat -> Nat) : Prop where
 al : P1.alloc ((1 + kn : Nat) : Int) = (((a : Int), 0), P2)
 lo : firstD P1.n <= a
 hi : a + kn < P1.n
 rd : P2.read ((a + kn : Nat) : Int) = (x, 0)
 wr : P2.write ((a + kn : Nat) : Int) s = (0, P3)
 rw : P3.read ((a + kn : Nat) : Int) = (s, 0)
 co : P3.commit = (0, P4)
 rc : P4.read ((a + kn : Nat) : Int) = (s, 0)
 sc : P4.stateL = P3.stateL
 ru : P3.undo.read ((a + kn : Nat) : Int) = (x, 0)
 ln : P3.stateL.length = P2.stateL.length
 lm : P2.stateL.length = 258 * m
 nm : ∀ q, q < m -> ((P2.stateL.drop (258 * q)).getD 0 0).toNat + 256 * ((P2.stateL.drop (258 * q)).getD 1 0).toNat = u q
 ch : ∀ q, q < m -> u q ≠ a + kn -> (P3.stateL.drop (258 * q)).take 258 = (P2.stateL.drop (258 * q)).take 258
 mx : m <= 4096
theorem others_math {P0 : TS} (h : P0.Ok) (ho : P0.op = false) (kn : Nat) (s : ByteArray) (hs : s.size = 256) : ∃ P1, P0.begin_ = (0, P1) /\ P1.n = P0.n /\
  (P1.alloc ((1 + kn : Nat) : Int) = ((0, 9), P1) \/ ∃ (P2 P3 P4 : TS) (a : Nat) (x : ByteArray) (m : Nat) (u : Nat -> Nat), Oth7 P1 P2 P3 P4 a kn x s m u) := by
 obtain ⟨P1, b1, ok1, op1, c1, k1, bb, bt1⟩ := begun h ho
 refine ⟨P1, b1, k1.1, ?_⟩
 rcases alloc_fresh ok1 op1 c1 (1 + kn) (by omega) with ⟨_, e2⟩ | ⟨a, e1, e2, g2, g3, gb, gn, gop, gok, gc⟩
 ·exact .inl e2
 ·right
  have hl := ok1.len
  have hn1 := ok1.n1
  have hnb : nbM P1.n <= 2 := by unfold nbM; omega
  have hfit : a + (1 + kn) <= 8 * P1.bits.length := by rw [hl]; unfold nbM; omega
  have ht : ∀ j : Int, (firstD P1.n : Int) <= j -> (P1.turn a (1 + kn) true).2.t j = P1.t j := fun j hj => turn_t _ _ _ _ hj
  have ka : Kept P1 (P1.turn a (1 + kn) true).2 := kept_turn _ _ _ _
  generalize (P1.turn a (1 + kn) true).2 = P2 at *
  have hbt : bt P2.bits (a + kn) = true := by rw [gb, bt_stL _ _ _ _ _ hfit, if_pos (by omega)]
  have hlo : firstD P2.n <= a + kn := by rw [gn]; omega
  have hhi : a + kn < P2.n := by rw [gn]; omega
  obtain ⟨w1, w2, w3, w4, w5⟩ := write_used gop (by omega) (a + kn) hlo hhi hbt s hs
  have ok3 : (P2.over [(((a + kn : Nat) : Int), s)]).Ok := by have := gok.write ((a + kn : Nat) : Int) s; rw [w1] at this; exact this
  have k3 : Kept P2 (P2.over [(((a + kn : Nat) : Int), s)]) := by have := kept_write P2 ((a + kn : Nat) : Int) s; rw [w1] at this; exact this
  have op3 : (P2.over [(((a + kn : Nat) : Int), s)]).op = true := by rw [(P2.over_n _).2.2.2.2]; exact gop
  obtain ⟨s1, s2, s3⟩ := state_one (P := P2) (Q := P2.over [(((a + kn : Nat) : Int), s)]) (by omega) gok.st ok3.st w5 w4 (a + kn) w3
  generalize P2.over [(((a + kn : Nat) : Int), s)] = P3 at *
  have hco : P3.commit = (0, { P3 with H := P3.t, keep := P3.bits }.undo) := by unfold commit; rw [if_neg (by rw [op3]; simp)]
  refine ⟨P2, P3, { P3 with H := P3.t, keep := P3.bits }.undo, a, P2.t ((a + kn : Nat) : Int), P2.usedL.length, fun q => P2.usedL.getD q 0, ⟨e2, g2, by omega, read_data _ hlo hhi, w1, ?_, hco, ?_, ?_, ?_, s1, s2, fun q hq => (s3 q hq).1, fun q hq => (s3 q hq).2, ?_⟩⟩
  ·rw [read_data _ (by rw [w5]; exact hlo) (by rw [w5]; exact hhi), w2]
  ·have e := read_data (P := { P3 with H := P3.t, keep := P3.bits }.undo) (a + kn) (by show firstD P3.n <= _; rw [w5]; exact hlo) (by show _ < P3.n; rw [w5]; exact hhi)
   rw [e]
   show (P3.t _, (0 : Int)) = _
   rw [w2]
  ·exact state_same rfl rfl fun _ _ => rfl
  ·have e := read_data (P := P3.undo) (a + kn) (by show firstD P3.n <= _; rw [w5]; exact hlo) (by show _ < P3.n; rw [w5]; exact hhi)
   rw [e]
   show (P3.H _, (0 : Int)) = _
   rw [k3.2.1, ka.2.1, k1.2.1, ht _ (by omega), bt1, (h.shut_is ho).1]
  ·have := List.length_filter_le (fun i => decide (firstD P2.n <= i) && bt P2.bits i) (List.range P2.n)
   rw [List.length_range] at this
   unfold usedL
   omega
end TS
end Go.Proofs.YthambopnmhkeeaaGreat
