import Derived.Test.YtekjgjhhjlcoaaaPrgS
import Derived.Deep.RegionWith
namespace Go.Proofs.Ytekjgjhhjlcoaaa
open Go.RowKit Go.Conc

set_option maxHeartbeats 1000000 in
theorem newHall_call (n pass : Int) (w : World) :
    Calls Try.prog 26 #[.int .i64 n, .int .i64 pass] w fun e w' =>
      (Tg.hallErr n pass = 0 ∧ ∃ hb, e = .returned (.tuple #[.pointer (some ⟨hb, 0, none⟩), .int .i64 0]) ∧ w.heap.size ≤ hb ∧ PG (some n) w' hb (Tg.fresh n pass) (.slice none 0 0) [] [] ∧ Tch (fun _ => False) w w') ∨
      (Tg.hallErr n pass ≠ 0 ∧ e = .returned (.tuple #[.pointer none, .int .i64 (Tg.hallErr n pass)]) ∧ Tch (fun _ => False) w w') := by
  by_cases h1 : 1 ≤ n ∧ n ≤ 100
  · by_cases h2 : 0 ≤ pass ∧ pass ≤ 20
    · have he : Tg.hallErr n pass = 0 := by unfold Tg.hallErr Tg.newErr; rw [if_neg (by omega), if_neg (by omega), if_neg (by omega)]
      have HE := hid he; clear he
      go_enter Try.func26, Try.ntmps26
      go_wp2
      all_goals
        go_ret2
        exact Or.inl ⟨HE.out, w.heap.size, rfl, Nat.le_refl _, ⟨⟨heap_alloc_new _ _, World.ownsRow_nil _ _ _ _, by simp, by simp, by simp, by simp, by simp, by simp⟩, [], ⟨rfl, by simp [Tg.fresh], rfl, by simp, by simp [Tg.fresh], by simp⟩⟩, (Tch.refl _ _).alloc _⟩
    · have he : Tg.hallErr n pass = 2 := by unfold Tg.hallErr Tg.newErr; rw [if_neg (by omega), if_neg (by omega), if_pos h2]
      have HE := hid he; clear he
      go_enter Try.func26, Try.ntmps26
      go_wp2
      all_goals
        go_ret2
        exact Or.inr ⟨by rw [HE.out]; omega, by rw [HE.out]; rfl, Tch.refl _ _⟩
  · have he : Tg.hallErr n pass = 1 := by unfold Tg.hallErr; rw [if_pos h1]
    have HE := hid he; clear he
    go_enter Try.func26, Try.ntmps26
    go_wp2
    all_goals
      go_ret2
      exact Or.inr ⟨by rw [HE.out]; omega, by rw [HE.out]; rfl, Tch.refl _ _⟩

section
variable {n : Int} {w : World} {gb : Nat} {g : Tg.Gt} {tv : Value} {rs : List Rc} {ns : List Nd}

set_option maxHeartbeats 400000 in
theorem read_call (h : PG (some n) w gb g tv rs ns) (ok : Tg.GtOk g) (hq : Tg.Quiet g.room g.pass g.all) (wait : Int) (hn : g.all.length + 1 ≤ 10000000000000) (htm : g.time ≤ 4611686018427387904) :
    Calls Try.prog 27 #[.pointer (some ⟨gb, 0, none⟩), .int .i64 wait] w fun e w' =>
      e = .returned (.tuple #[.int .i64 (Tg.ask g 1 1 wait).2.1, .int .i64 (Tg.ask g 1 1 wait).2.2.1, .int .i64 (Tg.ask g 1 1 wait).2.2.2]) ∧ ∃ tv' rs' ns', Left1 (some n) w gb tv rs ns w' (Tg.ask g 1 1 wait).1 tv' rs' ns' := by
  have AK := ask_call h ok hq 1 1 wait hn htm
  obtain ⟨r1, e1⟩ : ∃ x, (Tg.ask g 1 1 wait).2.1 = x := ⟨_, rfl⟩
  obtain ⟨r2, e2⟩ : ∃ x, (Tg.ask g 1 1 wait).2.2.1 = x := ⟨_, rfl⟩
  obtain ⟨r3, e3⟩ : ∃ x, (Tg.ask g 1 1 wait).2.2.2 = x := ⟨_, rfl⟩
  rw [e1, e2, e3] at AK ⊢
  clear e1 e2 e3
  go_enter Try.func27, Try.ntmps27
  go_wp2_with (first | (go_at_call 21; refine AK.mono ?_; rintro e w1 ⟨rfl, tv', rs', ns', L⟩) | fail)
  go_ret3
  exact ⟨rfl, tv', rs', ns', L⟩

set_option maxRecDepth 20000 in
set_option maxHeartbeats 4000000 in
theorem write_call (h : PG (some n) w gb g tv rs ns) (ok : Tg.GtOk g) (hq : Tg.Quiet g.room g.pass g.all) (wait : Int) (hn : g.all.length + 1 ≤ 10000000000000) (htm : g.time ≤ 4611686018427387904) :
    Calls Try.prog 28 #[.pointer (some ⟨gb, 0, none⟩), .int .i64 wait] w fun e w' =>
      e = .returned (.tuple #[.int .i64 (Tg.ask g n 0 wait).2.1, .int .i64 (Tg.ask g n 0 wait).2.2.1, .int .i64 (Tg.ask g n 0 wait).2.2.2]) ∧ ∃ tv' rs' ns', Left1 (some n) w gb tv rs ns w' (Tg.ask g n 0 wait).1 tv' rs' ns' := by
  have hd : PG (some n) w.drew gb g tv rs ns := ⟨h.ph.drew, h.rel⟩
  have AK := ask_call hd ok hq n 0 wait hn htm
  have c9 := h.ph.readers rfl
  obtain ⟨r1, e1⟩ : ∃ x, (Tg.ask g n 0 wait).2.1 = x := ⟨_, rfl⟩
  obtain ⟨r2, e2⟩ : ∃ x, (Tg.ask g n 0 wait).2.2.1 = x := ⟨_, rfl⟩
  obtain ⟨r3, e3⟩ : ∃ x, (Tg.ask g n 0 wait).2.2.2 = x := ⟨_, rfl⟩
  rw [e1, e2, e3] at AK ⊢
  clear e1 e2 e3
  go_enter Try.func28, Try.ntmps28
  go_wp2_with fail
  go_region_with (first | (go_at_call 21; refine AK.mono ?_; rintro e w1 ⟨rfl, tv', rs', ns', L⟩) | fail)
  all_goals
    go_wp2
    go_ret3
    exact ⟨rfl, tv', rs', ns', L.pg, (Tch.refl _ _).drew.trans L.tch, L.sub⟩
end

/-- What the laws ask of the hall's calls, they do. -/
theorem gate_hall : GateHall where
  newHall := newHall_call
  read := fun h ok hq wait hn htm => read_call h ok hq wait hn htm
  write := fun h ok hq wait hn htm => write_call h ok hq wait hn htm

end Go.Proofs.Ytekjgjhhjlcoaaa
