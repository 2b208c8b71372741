/- Small facts that the texts of the document's own frames share: an append step of a region, noughts as a text, texts joined. -/
import Derived.Test.YtodfcbpimglhdaaFSum
import Derived.Deep.RegionLaw
namespace Go.Proofs.Ytodfcbpimglhdaa.Fr
open Go.RowKit

section
variable {P : Program}
theorem step_append_own {ops : Array Oper} {o : Oper} {a : Act} {w : World} {K : Act → World → Prop} {Q : Exit → Act → World → Prop} {E : Prop} (hgd : o.guard = none) (s x : Operand) (t : TypeId)
    (ho : o.op = .call { callee := .builtin .append, args := #[s, x], argTypes := #[t, t] })
    (base : Nat) (e : TypeId) (i : TypeInfo) (z : Value) (size bytes : Nat) (ht : P.underlying t = some (.slice e)) (hi : P.info? e = some i) (hz : i.zero = some z)
    (hsize : i.size = size) (hby : i.bytes = bytes) (hzs : z.cells.size = size) (hsz : 0 < size)
    (v : Value) (n : Nat) (xs : List Value) (hs : a.eval s = v) (hown : w.ownsRow base e size v n xs)
    (ad : Addr) (m c : Nat) (news : List Value) (hx : a.eval x = .slice (some ad) m c) (hl : news.length = m * size) (hnews : ∀ j u, news[j]? = some u → w.cell? (ad.add j) = some u) (h1 : ∀ u ∈ news, u.oneCell' = true)
    (h63 : n + m ≤ maxLen) (hbytes : (n + m) * bytes ≤ 140737488355328) (hbase : base ≤ w.heap.size)
    (h : ∀ v' w', w'.ownsRow base e size v' (n + m) (xs ++ news) → w.grownBy w' v.ownBlock → K (a.put o.dst v') w') :
    if Region.wanted o (yielded ops a.tmps) = true then Oper.wp P o a w K Q else E := by
  have hw : Region.wanted o (yielded ops a.tmps) = true := by simp [Region.wanted, hgd]
  rw [if_pos hw]
  exact wp_append_own w s x t ho base e i z size bytes ht hi hz hsize hby hzs hsz v n xs hs hown ad m c news hx hl hnews h1 h63 hbytes hbase (fun v' w' h2 h3 _ => h v' w' h2 h3)
end

theorem zero_text {B : Nat} {w : World} {g n : Nat} (h : w.ownsRow B 5 1 (.slice (some ⟨g, 0, none⟩) n n) n (List.replicate n (.int .u8 0))) :
    (convert 78 9 (.slice (some ⟨g, 0, none⟩) n n)).run Try.prog w = .ok (.string (bs (List.replicate n 0))) w := by
  have e : bs (List.replicate n 0) = strOfNums (List.replicate n 0) := by
    unfold bs strOfNums
    rw [List.map_replicate]; rfl
  rw [e]
  refine run_convert_bytes_arg w 78 5 Try.underlying78 Try.underlying5 g 0 n n (List.replicate n 0) (by simp) ?_ 9 Try.underlying9
  intro i hi
  rw [Nat.zero_add, World.ownsRow.cellAt h i (by omega)]
  simp [List.getD, hi]

theorem joinB_map_take (L : List (Int × ByteArray)) (k : Nat) (h : k < L.length) : joinB ((L.take (k + 1)).map (·.2)) = joinB ((L.take k).map (·.2)) ++ L[k].2.data.toList := by
  rw [List.take_succ_eq_append_getElem h, List.map_append]
  unfold joinB
  rw [List.flatMap_append]
  simp
theorem joinB_len (D : List ByteArray) (h : ∀ d ∈ D, d.size = 256) : (joinB D).length = 256 * D.length := by
  induction D with
  | nil => rfl
  | cons d D ih => rw [joinB_cons, List.length_append, ih (fun x hx => h x (List.mem_cons_of_mem _ hx)), str_len, h d (List.mem_cons_self ..), List.length_cons]; omega

theorem bs_grow {T : ByteArray} {L : List (Int × ByteArray)} {k : Nat} (h : k < L.length) (hT : T = bs (joinB ((L.take k).map (·.2)))) : T ++ L[k].2 = bs (joinB ((L.take (k + 1)).map (·.2))) := by
  rw [hT, joinB_map_take L k h, ← bs_append, bs_data]

end Go.Proofs.Ytodfcbpimglhdaa.Fr
