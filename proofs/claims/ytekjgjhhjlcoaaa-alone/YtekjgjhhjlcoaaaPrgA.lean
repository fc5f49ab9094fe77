import Derived.Test.YtekjgjhhjlcoaaaBase
import Derived.Conc.LoneSelect
import Derived.Conc.SmallLaws
import Derived.Conc.EventLaws
namespace Go.Proofs.Ytekjgjhhjlcoaaa
open Go.RowKit Go.Conc

/-- A ticket's channel: none, or one that is open as long as it waits. -/
def ChanAt (w : World) (c : Nat) (shut : Bool) : Prop := w.heap[c]? = some (.chan 0 #[] shut 0 0 false)

set_option maxRecDepth 100000 in
theorem waits_nil (rb : Nat) (w : World) (h2 : w.cell? ⟨rb, 2, none⟩ = some (.chan none)) :
    Calls Try.prog 52 #[.pointer (some ⟨rb, 0, none⟩)] w fun e w' => e = .returned (.bool false) ∧ w' = w := by
  refine calls_of_loneTo fun cs => ?_
  have e : Frame.enter Try.prog 52 #[.pointer (some ⟨rb, 0, none⟩)] .normal = (base 52).at ⟨#[.pointer (some ⟨rb, 0, none⟩), undef, undef, undef, undef, undef, undef, undef, undef, undef, undef, undef, undef, undef, undef], []⟩ [.code (Try.f52.body.getD .skip)] := by
    simp [Frame.enter, Frame.at, Try.func52, base, Try.f52]
  rw [e]
  refine LoneTo.goes (n := 20) ?_
  simp only [Try.f52, Option.getD_some]
  s_c stepG_seq
  s_reg
  s_op
  s_c stepG_region_end
  s_c stepG_seq
  s_c stepG_seq
  s_reg
  s_op
  s_op
  s_op
  s_op
  s_op
  s_c stepG_region_end
  s_cond true
  s_c stepG_seq
  s_reg
  s_op
  s_c stepG_region_end
  s_c stepG_ret'
  s_stop
  exact LoneTo.done ⟨.returned (.bool false), _, rfl, ⟨rfl, rfl⟩, rfl, rfl, rfl, rfl, _, Try.func52, by simp [results, Try.f52, Frame.at]⟩

set_option maxRecDepth 100000 in
theorem waits_open (rb c : Nat) (w : World) (h2 : w.cell? ⟨rb, 2, none⟩ = some (.chan (some c))) (hc : ChanAt w c false) :
    Calls Try.prog 52 #[.pointer (some ⟨rb, 0, none⟩)] w fun e w' => e = .returned (.bool true) ∧ w' = w := by
  refine calls_of_loneTo fun cs => ?_
  have e : Frame.enter Try.prog 52 #[.pointer (some ⟨rb, 0, none⟩)] .normal = (base 52).at ⟨#[.pointer (some ⟨rb, 0, none⟩), undef, undef, undef, undef, undef, undef, undef, undef, undef, undef, undef, undef, undef, undef], []⟩ [.code (Try.f52.body.getD .skip)] := by
    simp [Frame.enter, Frame.at, Try.func52, base, Try.f52]
  rw [e]
  refine LoneTo.goes (n := 24) ?_
  simp only [Try.f52, Option.getD_some]
  s_c stepG_seq
  s_reg
  s_op
  s_c stepG_region_end
  s_c stepG_seq
  s_c stepG_seq
  s_reg
  s_op
  s_op
  s_op
  s_op
  s_op
  s_c stepG_region_end
  s_cond false
  s_c stepG_skip
  s_c stepG_seq
  s_reg
  s_op
  s_op
  s_op
  s_op
  s_c stepG_region_end
  s_c stepG_seq
  s_reg
  s_stop
  refine LoneTo.step (step_lone_select_default (c := c) (z := .agg #[]) (cap := 0) (s := 0) (r := 0) (tm := false) (stepG_comm (cases := #[rcase c (.agg #[])]) (blocking := false) (shape := .select) (w' := w) rfl rfl (by decide) (by simp [go_sem, execOp, rcase, Act.eval])) hc) ?_
  rw [Frame.finish_at]
  walk_nrm
  refine LoneTo.goes (n := 10) ?_
  s_op
  s_op
  s_c stepG_region_end
  s_c stepG_block
  s_cond false
  s_c stepG_seq
  s_reg
  s_op
  s_c stepG_region_end
  s_c stepG_ret'
  s_stop
  exact LoneTo.done ⟨.returned (.bool true), _, rfl, ⟨rfl, rfl⟩, rfl, rfl, rfl, rfl, _, Try.func52, by simp [results, Try.f52, Frame.at]⟩

set_option maxRecDepth 100000 in
theorem waits_shut (rb c : Nat) (w : World) (h2 : w.cell? ⟨rb, 2, none⟩ = some (.chan (some c))) (hc : ChanAt w c true) :
    Calls Try.prog 52 #[.pointer (some ⟨rb, 0, none⟩)] w fun e w' => e = .returned (.bool false) ∧ w' = w := by
  refine calls_of_loneTo fun cs => ?_
  have e : Frame.enter Try.prog 52 #[.pointer (some ⟨rb, 0, none⟩)] .normal = (base 52).at ⟨#[.pointer (some ⟨rb, 0, none⟩), undef, undef, undef, undef, undef, undef, undef, undef, undef, undef, undef, undef, undef, undef], []⟩ [.code (Try.f52.body.getD .skip)] := by
    simp [Frame.enter, Frame.at, Try.func52, base, Try.f52]
  rw [e]
  refine LoneTo.goes (n := 24) ?_
  simp only [Try.f52, Option.getD_some]
  s_c stepG_seq
  s_reg
  s_op
  s_c stepG_region_end
  s_c stepG_seq
  s_c stepG_seq
  s_reg
  s_op
  s_op
  s_op
  s_op
  s_op
  s_c stepG_region_end
  s_cond false
  s_c stepG_skip
  s_c stepG_seq
  s_reg
  s_op
  s_op
  s_op
  s_op
  s_c stepG_region_end
  s_c stepG_seq
  s_reg
  s_stop
  refine LoneTo.step (step_lone_select_recv_shut (c := c) (z := .agg #[]) (cap := 0) (s := 0) (r := 0) (tm := false) (stepG_comm (cases := #[rcase c (.agg #[])]) (blocking := false) (shape := .select) (w' := w) rfl rfl (by decide) (by simp [go_sem, execOp, rcase, Act.eval])) hc) ?_
  rw [Frame.finish_at]
  walk_nrm
  refine LoneTo.goes (n := 10) ?_
  s_op
  s_op
  s_c stepG_region_end
  s_c stepG_block
  s_cond true
  s_c stepG_seq
  s_reg
  s_op
  s_c stepG_region_end
  s_c stepG_ret'
  s_stop
  exact LoneTo.done ⟨.returned (.bool false), _, rfl, ⟨rfl, rfl⟩, rfl, rfl, rfl, rfl, _, Try.func52, by simp [results, Try.f52, Frame.at]⟩

end Go.Proofs.Ytekjgjhhjlcoaaa
