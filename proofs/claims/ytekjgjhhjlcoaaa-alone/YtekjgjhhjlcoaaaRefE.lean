import Derived.Test.YtekjgjhhjlcoaaaRefD
namespace Go.Proofs.Ytekjgjhhjlcoaaa
open Go.RowKit

theorem Try.infoTicket : (Try.prog.info? 127).map (fun i => (i.zero, i.size, i.bytes)) = some (some (.agg #[.int .i64 0, .int .i64 0, .int .i64 0, .int .i64 0, .int .i64 0]), 5, 40) := by kernel_rfl

set_option maxHeartbeats 1000000 in
theorem rask_err (b : Nat) (weight band wait : Int) (w : World) (he : Tg.askErr weight band wait ≠ 0) :
    Calls Try.prog 86 #[.pointer (some ⟨b, 0, none⟩), .int .i64 weight, .int .i64 band, .int .i64 wait] w fun e w' => e = .returned (.tuple #[.int .i64 0, .int .i64 0, .int .i64 (Tg.askErr weight band wait)]) ∧ w' = w := by
  by_cases h1 : 1 ≤ weight ∧ weight ≤ 100
  · have H1 := hid (within_yes h1)
    by_cases h2 : 0 ≤ band ∧ band ≤ 2
    · have H2 := hid (within_yes h2)
      by_cases h3 : wait = -1
      · exfalso; apply he; unfold Tg.askErr; rw [if_neg (by simpa using h1), if_neg (by simpa using h2), if_neg (by simp [h3])]
      · by_cases h4 : 0 ≤ wait ∧ wait ≤ 1000000
        · exfalso; apply he; unfold Tg.askErr; rw [if_neg (by simpa using h1), if_neg (by simpa using h2), if_neg (fun x => x.2 h4)]
        · have H4 := hid (within_no h4)
          have e5 : Tg.askErr weight band wait = 5 := by unfold Tg.askErr; rw [if_neg (by simpa using h1), if_neg (by simpa using h2), if_pos ⟨h3, h4⟩]
          rw [e5]
          have h3' : (wait != -1) = true := by simpa using h3
          clear e5 he h1 h2 h3 h4
          go_enter Try.func86, Try.ntmps86
          go_wp2_with fail
          refine (within_is _ _ _ true _ H1.out).mono ?_
          rintro e w' ⟨rfl, rfl⟩
          go_wp2_with fail
          refine (within_is _ _ _ true _ H2.out).mono ?_
          rintro e w' ⟨rfl, rfl⟩
          go_wp2_with fail
          refine (within_is _ _ _ false _ H4.out).mono ?_
          rintro e w' ⟨rfl, rfl⟩
          go_wp2
          go_ret3
          exact ⟨rfl, rfl⟩
    · have H2 := hid (within_no h2)
      have e4 : Tg.askErr weight band wait = 4 := by unfold Tg.askErr; rw [if_neg (by simpa using h1), if_pos h2]
      rw [e4]
      clear e4 he h1 h2
      go_enter Try.func86, Try.ntmps86
      go_wp2_with fail
      refine (within_is _ _ _ true _ H1.out).mono ?_
      rintro e w' ⟨rfl, rfl⟩
      go_wp2_with fail
      refine (within_is _ _ _ false _ H2.out).mono ?_
      rintro e w' ⟨rfl, rfl⟩
      go_wp2
      go_ret3
      exact ⟨rfl, rfl⟩
  · have H1 := hid (within_no h1)
    have e3 : Tg.askErr weight band wait = 3 := by unfold Tg.askErr; rw [if_pos h1]
    rw [e3]
    clear e3 he h1
    go_enter Try.func86, Try.ntmps86
    go_wp2_with fail
    refine (within_is _ _ _ false _ H1.out).mono ?_
    rintro e w' ⟨rfl, rfl⟩
    go_wp2
    go_ret3
    exact ⟨rfl, rfl⟩

end Go.Proofs.Ytekjgjhhjlcoaaa
