import Derived.Test.YtekjgjhhjlcoaaaLawV
import Derived.Test.YtekjgjhhjlcoaaaPrgR
namespace Go.Proofs.Ytekjgjhhjlcoaaa
open Go.RowKit Go.Conc

/-- What the law asks of the program's later calls, they do. -/
theorem gate_more : GateMore where
  cancel := by
    intro rd w gb g tv rs ns h ok n hn
    refine (cancel_call h ok n (by omega)).mono ?_
    rintro e w' ⟨he, rs', ns', L⟩
    exact ⟨he, tv, rs', ns', L⟩
  tick := by
    intro rd w gb g tv rs ns h ok hn ht
    refine (tick_call h ok (by omega) ht).mono ?_
    rintro e w' ⟨he, rs', ns', L⟩
    exact ⟨he, tv, rs', ns', L⟩
  resize := by
    intro rd w gb g tv rs ns h ok n hn
    refine (resize_call h ok n (by omega)).mono ?_
    rintro e w' ⟨he, rs', ns', L⟩
    exact ⟨he, tv, rs', ns', L⟩
  queue := by
    intro rd w gb g tv rs ns h ok hn
    exact queue_call h ok (by omega)

set_option maxHeartbeats 400000 in
theorem turns_law (sv : Value) (ss : List (Int × Int × Int × Int × Int)) (w : World) (S : Script w w.heap.size sv ss) (hss : ss.length + 3 ≤ 1000000000000) :
    Calls Try.prog 4 #[sv] w fun e w' => e = .returned (.bool true) ∧ Below w.heap.size w w' := by
  have H := plays_turns gate_more sv ss w S hss
  obtain ⟨ao, cap, rfl, hn, hcells⟩ := S.form
  clear S hcells
  go_enter Try.func4, Try.ntmps4
  go_wp2_with (go_at_call 12; refine H.mono ?_; rintro e w1 ⟨rfl, hb⟩)
  go_ret
  exact ⟨rfl, hb⟩

end Go.Proofs.Ytekjgjhhjlcoaaa
