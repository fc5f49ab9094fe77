import Derived.Test.YtekjgjhhjlcoaaaPrgC
namespace Go.Proofs.Ytekjgjhhjlcoaaa
open Go.RowKit Go.Conc

section
variable {w : World} {gb : Nat} {q : Gn} {tv : Value} {rs : List Rc} {ns : List Nd}

set_option maxHeartbeats 400000 in
theorem first_any (h : PH w gb q tv rs ns) :
    Calls Try.prog 39 #[.pointer (some ⟨gb, 7, none⟩)] w fun e w' => e = .returned (pn ns.head?) ∧ w' = w := by
  have c7 := h.gcell 7
  simp at c7
  obtain ⟨p, hp⟩ : ∃ p, pn ns.head? = .pointer p := ⟨_, rfl⟩
  rw [hp] at c7 ⊢
  clear hp
  go_enter Try.func39, Try.ntmps39
  go_wp2
  go_ret
  exact ⟨rfl, rfl⟩

set_option maxHeartbeats 400000 in
theorem next_any (h : PH w gb q tv rs ns) (j : Nat) (hj : j < ns.length) :
    Calls Try.prog 76 #[.pointer (some ⟨ns[j].blk, 0, none⟩)] w fun e w' => e = .returned (pn ns[j + 1]?) ∧ w' = w := by
  have c6 := h.ncell j hj 6
  simp at c6
  obtain ⟨p, hp⟩ : ∃ p, pn ns[j + 1]? = .pointer p := ⟨_, rfl⟩
  rw [hp] at c6 ⊢
  clear hp
  go_enter Try.func76, Try.ntmps76
  go_wp2
  go_ret
  exact ⟨rfl, rfl⟩

set_option maxHeartbeats 400000 in
theorem fits_any (h : PH w gb q tv rs ns) (x : Int) (b1 : 0 ≤ q.held) (b2 : q.held ≤ 4611686018427387904) (x1 : 0 ≤ x) (x2 : x ≤ 1000000) :
    Calls Try.prog 40 #[.pointer (some ⟨gb, 0, none⟩), .int .i64 x] w fun e w' => e = .returned (.bool (decide (q.held + x ≤ q.room))) ∧ ∃ n, w' = w.drewN n := by
  have c5 := h.gcell 5
  have c2 := h.gcell 2
  simp at c5 c2
  have e1 := wrapId (q.held + x) (by omega) (by omega)
  go_enter Try.func40, Try.ntmps40
  go_wp2
  go_quiet (fail)
  go_wp2
  go_ret
  exact ⟨rfl, _, rfl⟩

theorem fits_is (h : PH w gb q tv rs ns) (x : Int) (b1 : 0 ≤ q.held) (b2 : q.held ≤ 4611686018427387904) (x1 : 0 ≤ x) (x2 : x ≤ 1000000) (c : Bool) (hc : decide (q.held + x ≤ q.room) = c) :
    Calls Try.prog 40 #[.pointer (some ⟨gb, 0, none⟩), .int .i64 x] w fun e w' => e = .returned (.bool c) ∧ ∃ n, w' = w.drewN n := by
  subst hc; exact fits_any h x b1 b2 x1 x2

theorem PS.gate (gb : Nat) (tv : Value) (rs : List Rc) (ns : List Nd) : PS gb tv rs ns gb := Or.inl rfl
theorem PS.node (gb : Nat) (tv : Value) (rs : List Rc) (ns : List Nd) (j : Nat) (hj : j < ns.length) : PS gb tv rs ns ns[j].blk := Or.inr (Or.inr (Or.inr (Or.inr ⟨_, List.getElem_mem hj, rfl⟩)))

attribute [local go_sem] alloc_drewN setCell_drewN

set_option maxHeartbeats 1000000 in
theorem hold_any (h : PH w gb q tv rs ns) (i : Nat) (hi : i < rs.length) (b1 : 0 ≤ q.held) (b2 : q.held ≤ 4611686018427387904) (x1 : 0 ≤ rs[i].weight) (x2 : rs[i].weight ≤ 1000000) :
    Calls Try.prog 41 #[.pointer (some ⟨gb, 0, none⟩), .pointer (some ⟨rs[i].blk, 0, none⟩)] w fun e w' => e = .returned (.tuple #[]) ∧ PH w' gb { q with held := q.held + rs[i].weight } tv (rs.set i (settleR 2 rs[i])) ns ∧ Tch (PS gb tv rs ns) w w' := by
  have c5 := h.gcell 5
  have f5 := h.gfr 5
  have c0 := h.rcell (List.getElem_mem hi) 0
  simp at c5 c0
  have e1 := wrapId (q.held + rs[i].weight) (by omega) (by omega)
  have hne : gb ≠ rs[i].blk := ne_of_kind h.gate (h.recs _ (List.getElem_mem hi)) (by simp [kind_cells, kind_gate, recObj])
  have h1 := h.setHeld (q.held + rs[i].weight)
  go_enter Try.func41, Try.ntmps41
  go_wp2
  go_region
  all_goals
    go_wp2_with (go_at_call 42; refine (settle_any h1.drew i hi 2).mono ?_; rintro e w' ⟨rfl, hp, ht⟩)
    go_end0
    exact ⟨rfl, hp, ((Tch.refl _ _).setCell (p := ⟨gb, 5, none⟩) (Or.inl (PS.gate _ _ _ _)) _).drew.trans ht⟩

set_option maxHeartbeats 1000000 in
theorem release_any (h : PH w gb q tv rs ns) (i : Nat) (hi : i < rs.length) (b2 : q.held ≤ 4611686018427387904) (x1 : 0 ≤ rs[i].weight) (x2 : rs[i].weight ≤ q.held) :
    Calls Try.prog 83 #[.pointer (some ⟨gb, 0, none⟩), .pointer (some ⟨rs[i].blk, 0, none⟩)] w fun e w' => e = .returned (.tuple #[]) ∧ PH w' gb { q with held := q.held - rs[i].weight } tv (rs.set i (settleR 6 rs[i])) ns ∧ Tch (PS gb tv rs ns) w w' := by
  have c5 := h.gcell 5
  have f5 := h.gfr 5
  have c0 := h.rcell (List.getElem_mem hi) 0
  simp at c5 c0
  have e1 := wrapId (q.held - rs[i].weight) (by omega) (by omega)
  have hne : gb ≠ rs[i].blk := ne_of_kind h.gate (h.recs _ (List.getElem_mem hi)) (by simp [kind_cells, kind_gate, recObj])
  have h1 := h.setHeld (q.held - rs[i].weight)
  have hlt : decide (q.held < rs[i].weight) = false := by simp; omega
  go_enter Try.func83, Try.ntmps83
  go_wp2
  go_quiet (fail)
  go_wp2
  go_region
  all_goals
    go_wp2_with (go_at_call 42; refine (settle_any (h1.drewN _).drew i hi 6).mono ?_; rintro e w' ⟨rfl, hp, ht⟩)
    go_end0
    exact ⟨rfl, hp, (((Tch.refl _ _).setCell (p := ⟨gb, 5, none⟩) (Or.inl (PS.gate _ _ _ _)) _).drewN _).drew.trans ht⟩

end

theorem askErr_3 {weight band wait : Int} (h : ¬ (1 ≤ weight ∧ weight ≤ 100)) : 3 = Tg.askErr weight band wait := by unfold Tg.askErr; rw [if_pos h]
theorem askErr_4 {weight band wait : Int} (h1 : 1 ≤ weight ∧ weight ≤ 100) (h : ¬ (0 ≤ band ∧ band ≤ 2)) : 4 = Tg.askErr weight band wait := by unfold Tg.askErr; rw [if_neg (by simpa using h1), if_pos h]
theorem askErr_5 {weight band wait : Int} (h1 : 1 ≤ weight ∧ weight ≤ 100) (h2 : 0 ≤ band ∧ band ≤ 2) (h : wait ≠ -1 ∧ ¬ (0 ≤ wait ∧ wait ≤ 1000000)) : 5 = Tg.askErr weight band wait := by
  unfold Tg.askErr; rw [if_neg (by simpa using h1), if_neg (by simpa using h2), if_pos h]
theorem askErr_0 {weight band wait : Int} (h1 : 1 ≤ weight ∧ weight ≤ 100) (h2 : 0 ≤ band ∧ band ≤ 2) (h : wait = -1 ∨ (0 ≤ wait ∧ wait ≤ 1000000)) : 0 = Tg.askErr weight band wait := by
  unfold Tg.askErr; rw [if_neg (by simpa using h1), if_neg (by simpa using h2), if_neg (by rintro ⟨a, b⟩; rcases h with x | x; exact a x; exact b x)]

set_option maxHeartbeats 1000000 in
theorem checkAsk_any (weight band wait : Int) (w : World) :
    Calls Try.prog 38 #[.int .i64 weight, .int .i64 band, .int .i64 wait] w fun e w' => e = .returned (.int .i64 (Tg.askErr weight band wait)) ∧ w' = w := by
  by_cases h1 : 1 ≤ weight ∧ weight ≤ 100
  · by_cases h2 : 0 ≤ band ∧ band ≤ 2
    · by_cases h3 : wait = -1
      · rw [← askErr_0 h1 h2 (Or.inl h3)]
        have h3' : (wait != -1) = false := by simp [h3]
        clear h3
        go_enter Try.func38, Try.ntmps38
        go_wp2
        all_goals
          go_ret
          exact ⟨rfl, rfl⟩
      · have h3' : (wait != -1) = true := by simp [h3]
        by_cases h4 : 0 ≤ wait ∧ wait ≤ 1000000
        · rw [← askErr_0 h1 h2 (Or.inr h4)]
          clear h3
          go_enter Try.func38, Try.ntmps38
          go_wp2
          all_goals
            go_ret
            exact ⟨rfl, rfl⟩
        · rw [← askErr_5 h1 h2 ⟨h3, h4⟩]
          clear h3
          go_enter Try.func38, Try.ntmps38
          go_wp2
          all_goals
            go_ret
            exact ⟨rfl, rfl⟩
    · rw [← askErr_4 h1 h2]
      go_enter Try.func38, Try.ntmps38
      go_wp2
      all_goals
        go_ret
        exact ⟨rfl, rfl⟩
  · rw [← askErr_3 h1]
    go_enter Try.func38, Try.ntmps38
    go_wp2
    all_goals
      go_ret
      exact ⟨rfl, rfl⟩

section
variable {w : World} {gb : Nat} {q : Gn} {tv : Value} {rs : List Rc} {ns : List Nd}

theorem PH.form (h : PH w gb q tv rs ns) :
    ∃ ao cap, tv = .slice ao rs.length cap ∧ rs.length ≤ 9223372036854775807 ∧ ∀ k (hk : k < rs.length), ∃ ab, ao = some ⟨ab, 0, none⟩ ∧ w.cell? ⟨ab, k, none⟩ = some (pr rs[k].blk) := by
  rcases h.row.2 with ⟨rfl, hn⟩ | ⟨ab, cap, cur, rfl, _, hh, hl, hm, _⟩
  · exact ⟨none, 0, by rw [hn], by rw [hn]; omega, fun k hk => absurd hk (by omega)⟩
  · refine ⟨_, cap, rfl, by unfold maxLen at hm; omega, fun k hk => ⟨ab, rfl, ?_⟩⟩
    have := h.row.cells (g := ab) rfl k (pr rs[k].blk) (by simp [hk])
    rw [Addr.add_lit] at this
    simpa using this

set_option maxHeartbeats 400000 in
theorem find_bad (h : PH w gb q tv rs ns) (n : Int) (hn : ¬ (1 ≤ n ∧ n ≤ rs.length)) :
    Calls Try.prog 48 #[.pointer (some ⟨gb, 0, none⟩), .int .i64 n] w fun e w' => e = .returned (.tuple #[.pointer none, .int .i64 6]) ∧ w' = w := by
  obtain ⟨ao, cap, rfl, hl, _⟩ := h.form
  have c6 := h.gcell 6
  simp at c6
  go_enter Try.func48, Try.ntmps48
  go_wp2
  all_goals
    go_ret2
    exact ⟨rfl, rfl⟩

set_option maxHeartbeats 400000 in
theorem find_good (h : PH w gb q tv rs ns) (i : Nat) (hi : i < rs.length) :
    Calls Try.prog 48 #[.pointer (some ⟨gb, 0, none⟩), .int .i64 ((i : Int) + 1)] w fun e w' => e = .returned (.tuple #[.pointer (some ⟨rs[i].blk, 0, none⟩), .int .i64 0]) ∧ w' = w := by
  obtain ⟨ao, cap, rfl, hl, hao⟩ := h.form
  obtain ⟨ab, rfl, ci⟩ := hao i hi
  unfold pr at ci
  have c6 := h.gcell 6
  simp at c6
  go_enter Try.func48, Try.ntmps48
  go_wp2
  all_goals
    go_ret2
    exact ⟨rfl, rfl⟩
end

end Go.Proofs.Ytekjgjhhjlcoaaa
