import Derived.Test.YtekjgjhhjlcoaaaLawU
import Derived.Test.YtekjgjhhjlcoaaaLawF
namespace Go.Proofs.Ytekjgjhhjlcoaaa
open Go.RowKit Go.Conc

/-- What the play of the first nine calls keeps. -/
def TurnI (w : World) (B n : Nat) (w' : World) : Prop :=
  ∃ lv ps x, WI w.heap.size B w w' w.heap.size lv ps x ∧ ps.length = n ∧ w.heap.size ≤ w'.heap.size

theorem play_turns (M : GateMore) (w : World) : Play 1000000000000 9 w (TurnI w) where
  c0 := by
    rintro B n w' ⟨lv, ps, x, W, rfl, hz⟩
    have c := W.c0
    obtain ⟨ao, cap, rfl, _⟩ := W.form
    exact ⟨ao, cap, c⟩
  bel := by rintro B n w' ⟨lv, ps, x, W, rfl, hz⟩; exact W.bel
  num := by rintro B n w' ⟨lv, ps, x, W, rfl, hz⟩; exact W.num
  mono := by rintro B n w' ⟨lv, ps, x, W, rfl, hz⟩; exact ⟨lv, ps, x, W.mono (by omega), rfl, hz⟩
  first := by
    refine (play_asks w).first.mono ?_
    rintro e w1 ⟨rfl, lv, ps, W, hl, hz⟩
    exact ⟨rfl, lv, ps, _, W, hl, hz⟩
  step := by
    rintro B n w' kd e0 a b c ⟨lv, ps, x, W, rfl, hz⟩ hn hk he1 he2 hB
    by_cases h5 : kd ≤ 5
    · refine (step_any W hz hn kd e0 a b c h5 he1 he2 (by omega)).mono ?_
      rintro e w1 ⟨rfl, lv1, ps1, W1, hl, hz1⟩
      exact ⟨rfl, ps1.length, hl, lv1, ps1, x, W1, rfl, by omega⟩
    · by_cases h8 : kd ≤ 8
      · refine (step_more M W hz hn kd e0 a b c (by omega) h8 he1 he2 (by omega)).mono ?_
        rintro e w1 ⟨rfl, ps1, W1, hl, hz1⟩
        exact ⟨rfl, ps1.length, by omega, lv, ps1, x, W1, rfl, by omega⟩
      · obtain rfl : kd = 9 := by omega
        refine (step_queue M W hz hn e0 a b c he1 he2 hB).mono ?_
        rintro e w1 ⟨rfl, ps1, x1, W1, hl, hz1⟩
        exact ⟨rfl, ps1.length, by omega, lv, ps1, x1, W1, rfl, by omega⟩
  look := by
    rintro B n w' kd e0 a b c ⟨lv, ps, x, W, rfl, hz⟩ hn hk he1 he2 hB
    refine (step_rest W hz hn kd e0 a b c (by omega) (by omega) he1 he2 B (Nat.le_refl _) (by omega) (by omega)).mono ?_
    rintro e w1 ⟨rfl, ps1, W1, hl, hz1⟩
    exact ⟨rfl, lv, ps1, x, W1, by omega, by omega⟩
  looks := by
    rintro B n w' ⟨lv, ps, x, W, rfl, hz⟩
    refine (looks_any W hz).mono ?_
    rintro e w1 ⟨rfl, W1, hz1⟩
    exact ⟨rfl, lv, ps, x, W1, rfl, by omega⟩

theorem plays_turns (M : GateMore) (sv : Value) (ss : List (Int × Int × Int × Int × Int)) (w : World) (S : Script w w.heap.size sv ss) (hss : ss.length + 3 ≤ 1000000000000) :
    Calls Try.prog 12 #[sv, .int .i64 9] w fun e w' => e = .returned (.bool true) ∧ Below w.heap.size w w' :=
  plays_gen sv ss w S 9 (by omega) _ 1000000000000 hss (play_turns M w)

end Go.Proofs.Ytekjgjhhjlcoaaa
