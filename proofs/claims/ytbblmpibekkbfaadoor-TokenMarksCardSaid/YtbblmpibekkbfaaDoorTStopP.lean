/- The program's stop words. -/
import Derived.Test.YtbblmpibekkbfaaDoorTStop
namespace Go.Proofs.YtbblmpibekkbfaaDoor
open Go.RowKit

theorem stop_yes {s : ByteArray} {X : List UInt8} (hX : X ∈ stopsL) (h : (s.toList == X) = true) : isStop s.data.toList = true := by
  unfold isStop
  rw [List.any_eq_true]
  refine ⟨X, hX, ?_⟩
  rw [beq_iff_eq] at h ⊢
  rw [← h, ByteArray.toList_eq]
theorem stop_no {s : ByteArray} (h : ∀ X ∈ stopsL, (s.toList == X) = false) : isStop s.data.toList = false := by
  unfold isStop
  rw [List.any_eq_false]
  intro X hX
  have := h X hX
  rw [beq_eq_false_iff_ne, ByteArray.toList_eq] at this
  simpa using fun e : X = _ => this e.symm
set_option maxRecDepth 100000 in
set_option maxHeartbeats 4000000 in
theorem pstop0_any (s : ByteArray) (w : World) : Calls Tryd.prog 15 #[.string s] w fun e w' => e = .returned (.bool (isStop s.data.toList)) ∧ Below w.heap.size w w' := by
  cases h0 : (s.toList == [97]) with
  | true =>
    have HS := Lib.hid (stop_yes (by decide) h0)
    go_enter Tryd.func15, Tryd.ntmps15
    go_wp2
    go_ret
    exact ⟨congrArg (fun b => Ending.returned (.bool b)) HS.out.symm, Below.refl _ _⟩
  | false =>
    cases h1 : (s.toList == [97, 110]) with
    | true =>
      have HS := Lib.hid (stop_yes (by decide) h1)
      go_enter Tryd.func15, Tryd.ntmps15
      go_wp2
      go_ret
      exact ⟨congrArg (fun b => Ending.returned (.bool b)) HS.out.symm, Below.refl _ _⟩
    | false =>
      cases h2 : (s.toList == [97, 110, 100]) with
      | true =>
        have HS := Lib.hid (stop_yes (by decide) h2)
        go_enter Tryd.func15, Tryd.ntmps15
        go_wp2
        go_ret
        exact ⟨congrArg (fun b => Ending.returned (.bool b)) HS.out.symm, Below.refl _ _⟩
      | false =>
        cases h3 : (s.toList == [97, 114, 101]) with
        | true =>
          have HS := Lib.hid (stop_yes (by decide) h3)
          go_enter Tryd.func15, Tryd.ntmps15
          go_wp2
          go_ret
          exact ⟨congrArg (fun b => Ending.returned (.bool b)) HS.out.symm, Below.refl _ _⟩
        | false =>
          cases h4 : (s.toList == [97, 115]) with
          | true =>
            have HS := Lib.hid (stop_yes (by decide) h4)
            go_enter Tryd.func15, Tryd.ntmps15
            go_wp2
            go_ret
            exact ⟨congrArg (fun b => Ending.returned (.bool b)) HS.out.symm, Below.refl _ _⟩
          | false =>
            cases h5 : (s.toList == [97, 116]) with
            | true =>
              have HS := Lib.hid (stop_yes (by decide) h5)
              go_enter Tryd.func15, Tryd.ntmps15
              go_wp2
              go_ret
              exact ⟨congrArg (fun b => Ending.returned (.bool b)) HS.out.symm, Below.refl _ _⟩
            | false =>
              cases h6 : (s.toList == [98, 101]) with
              | true =>
                have HS := Lib.hid (stop_yes (by decide) h6)
                go_enter Tryd.func15, Tryd.ntmps15
                go_wp2
                go_ret
                exact ⟨congrArg (fun b => Ending.returned (.bool b)) HS.out.symm, Below.refl _ _⟩
              | false =>
                cases h7 : (s.toList == [98, 121]) with
                | true =>
                  have HS := Lib.hid (stop_yes (by decide) h7)
                  go_enter Tryd.func15, Tryd.ntmps15
                  go_wp2
                  go_ret
                  exact ⟨congrArg (fun b => Ending.returned (.bool b)) HS.out.symm, Below.refl _ _⟩
                | false =>
                  cases h8 : (s.toList == [102, 111, 114]) with
                  | true =>
                    have HS := Lib.hid (stop_yes (by decide) h8)
                    go_enter Tryd.func15, Tryd.ntmps15
                    go_wp2
                    go_ret
                    exact ⟨congrArg (fun b => Ending.returned (.bool b)) HS.out.symm, Below.refl _ _⟩
                  | false =>
                    cases h9 : (s.toList == [105, 110]) with
                    | true =>
                      have HS := Lib.hid (stop_yes (by decide) h9)
                      go_enter Tryd.func15, Tryd.ntmps15
                      go_wp2
                      go_ret
                      exact ⟨congrArg (fun b => Ending.returned (.bool b)) HS.out.symm, Below.refl _ _⟩
                    | false =>
                      cases h10 : (s.toList == [105, 115]) with
                      | true =>
                        have HS := Lib.hid (stop_yes (by decide) h10)
                        go_enter Tryd.func15, Tryd.ntmps15
                        go_wp2
                        go_ret
                        exact ⟨congrArg (fun b => Ending.returned (.bool b)) HS.out.symm, Below.refl _ _⟩
                      | false =>
                        cases h11 : (s.toList == [105, 116]) with
                        | true =>
                          have HS := Lib.hid (stop_yes (by decide) h11)
                          go_enter Tryd.func15, Tryd.ntmps15
                          go_wp2
                          go_ret
                          exact ⟨congrArg (fun b => Ending.returned (.bool b)) HS.out.symm, Below.refl _ _⟩
                        | false =>
                          cases h12 : (s.toList == [111, 102]) with
                          | true =>
                            have HS := Lib.hid (stop_yes (by decide) h12)
                            go_enter Tryd.func15, Tryd.ntmps15
                            go_wp2
                            go_ret
                            exact ⟨congrArg (fun b => Ending.returned (.bool b)) HS.out.symm, Below.refl _ _⟩
                          | false =>
                            cases h13 : (s.toList == [111, 110]) with
                            | true =>
                              have HS := Lib.hid (stop_yes (by decide) h13)
                              go_enter Tryd.func15, Tryd.ntmps15
                              go_wp2
                              go_ret
                              exact ⟨congrArg (fun b => Ending.returned (.bool b)) HS.out.symm, Below.refl _ _⟩
                            | false =>
                              cases h14 : (s.toList == [111, 114]) with
                              | true =>
                                have HS := Lib.hid (stop_yes (by decide) h14)
                                go_enter Tryd.func15, Tryd.ntmps15
                                go_wp2
                                go_ret
                                exact ⟨congrArg (fun b => Ending.returned (.bool b)) HS.out.symm, Below.refl _ _⟩
                              | false =>
                                cases h15 : (s.toList == [116, 104, 101]) with
                                | true =>
                                  have HS := Lib.hid (stop_yes (by decide) h15)
                                  go_enter Tryd.func15, Tryd.ntmps15
                                  go_wp2
                                  go_ret
                                  exact ⟨congrArg (fun b => Ending.returned (.bool b)) HS.out.symm, Below.refl _ _⟩
                                | false =>
                                  cases h16 : (s.toList == [116, 111]) with
                                  | true =>
                                    have HS := Lib.hid (stop_yes (by decide) h16)
                                    go_enter Tryd.func15, Tryd.ntmps15
                                    go_wp2
                                    go_ret
                                    exact ⟨congrArg (fun b => Ending.returned (.bool b)) HS.out.symm, Below.refl _ _⟩
                                  | false =>
                                    cases h17 : (s.toList == [119, 105, 116, 104]) with
                                    | true =>
                                      have HS := Lib.hid (stop_yes (by decide) h17)
                                      go_enter Tryd.func15, Tryd.ntmps15
                                      go_wp2
                                      go_ret
                                      exact ⟨congrArg (fun b => Ending.returned (.bool b)) HS.out.symm, Below.refl _ _⟩
                                    | false =>
                                      have HS := Lib.hid (stop_no (s := s) (by
                                        intro X hX
                                        simp only [stopsL, List.mem_cons, List.not_mem_nil, or_false] at hX
                                        rcases hX with rfl | rfl | rfl | rfl | rfl | rfl | rfl | rfl | rfl | rfl | rfl | rfl | rfl | rfl | rfl | rfl | rfl | rfl
                                        all_goals assumption))
                                      go_enter Tryd.func15, Tryd.ntmps15
                                      go_wp2
                                      go_ret
                                      exact ⟨congrArg (fun b => Ending.returned (.bool b)) HS.out.symm, Below.refl _ _⟩
end Go.Proofs.YtbblmpibekkbfaaDoor
