import Derived.Test.YtekjgjhhjlcoaaaRefL
namespace Go.Proofs.Ytekjgjhhjlcoaaa
open Go.RowKit

theorem within_is (n lo hi : Int) (c : Bool) (w : World) (hc : (decide (lo ≤ n) && decide (n ≤ hi)) = c) :
    Calls Try.prog 87 #[.int .i64 n, .int .i64 lo, .int .i64 hi] w fun e w' => e = .returned (.bool c) ∧ w' = w := by
  subst hc; exact within_any n lo hi w

theorem within_yes {n lo hi : Int} (h : lo ≤ n ∧ n ≤ hi) : (decide (lo ≤ n) && decide (n ≤ hi)) = true := by simp [h.1, h.2]
theorem within_no {n lo hi : Int} (h : ¬ (lo ≤ n ∧ n ≤ hi)) : (decide (lo ≤ n) && decide (n ≤ hi)) = false := by
  by_cases h1 : lo ≤ n
  · have h2 : ¬ n ≤ hi := fun x => h ⟨h1, x⟩
    simp [h2]
  · simp [h1]

set_option maxHeartbeats 400000 in
theorem rstate_any (b : Nat) (g : Tg.Gt) (v : Value) (n : Int) (w : World) (h : RG w b g v) (hn : g.all.length ≤ 4398046511104) :
    Calls Try.prog 59 #[.pointer (some ⟨b, 0, none⟩), .int .i64 n] w fun e w' => e = .returned (.tuple #[.int .i64 (Tg.stateOf g.all n).1, .int .i64 (Tg.stateOf g.all n).2]) ∧ w' = w := by
  obtain ⟨ao, cap, rfl, hao⟩ := h.form
  have c3 := h.c3
  have H := h; clear h
  by_cases hv : 1 ≤ n ∧ n ≤ g.all.length
  · obtain ⟨k, rfl⟩ : ∃ k : Nat, n = (k : Int) + 1 := ⟨(n - 1).toNat, by omega⟩
    have hk : k < g.all.length := by omega
    obtain ⟨ab, rfl⟩ := hao k hk
    have s4 := H.at rfl k 4 hk (by omega)
    simp [tkCells] at s4
    have hs : Tg.stateOf g.all ((k : Int) + 1) = (g.all[k].state, 0) := by
      unfold Tg.stateOf; rw [if_pos hv]; simp [hk]
    rw [hs]
    clear hs
    have HW := hid (within_yes hv)
    clear hv
    go_enter Try.func59, Try.ntmps59
    go_wp2_with (go_at_call 87; refine (within_is _ _ _ true _ HW.out).mono ?_; rintro e w' ⟨rfl, rfl⟩)
    go_ret2
    exact ⟨rfl, rfl⟩
  · have hs : Tg.stateOf g.all n = (0, 6) := by unfold Tg.stateOf; rw [if_neg hv]
    rw [hs]
    clear hs
    have HW := hid (within_no hv)
    clear hv
    go_enter Try.func59, Try.ntmps59
    go_wp2_with (go_at_call 87; refine (within_is _ _ _ false _ HW.out).mono ?_; rintro e w' ⟨rfl, rfl⟩)
    go_ret2
    exact ⟨rfl, rfl⟩

set_option maxHeartbeats 400000 in
theorem rchange_any (b : Nat) (g : Tg.Gt) (v : Value) (n s s' : Int) (w : World) (h : RG w b g v) (ok : Tg.GtOk g) (hn : g.all.length ≤ 4398046511104) (hs1 : 2 ≤ s') (hs2 : s' ≤ 6) :
    Calls Try.prog 88 #[.pointer (some ⟨b, 0, none⟩), .int .i64 n, .int .i64 s, .int .i64 s'] w fun e w' => e = .returned (.int .i64 (Tg.change g n s s').2) ∧ RG w' b (Tg.change g n s s').1 v ∧ Tch (RGs b v) w w' := by
  obtain ⟨ao, cap, rfl, hao⟩ := h.form
  have c3 := h.c3
  have H := h; clear h
  by_cases hv : 1 ≤ n ∧ n ≤ g.all.length
  · obtain ⟨k, rfl⟩ : ∃ k : Nat, n = (k : Int) + 1 := ⟨(n - 1).toNat, by omega⟩
    have hk : k < g.all.length := by omega
    obtain ⟨ab, rfl⟩ := hao k hk
    have s4 := H.at rfl k 4 hk (by omega)
    have f4 := H.frow rfl (k * 5 + 4)
    simp [tkCells] at s4
    have HW := hid (within_yes hv)
    by_cases he : g.all[k].state = s
    · have hs : Tg.change g ((k : Int) + 1) s s' = ({ g with all := Tg.letIn g.room g.pass (g.all.modify k (Tg.setState s')) }, 0) := by
        unfold Tg.change; rw [if_pos hv]; simp [hk, he]
      rw [hs]
      clear hs hv
      have he' : (g.all[k].state != s) = false := by simp [he]
      clear he
      have hp := H.put rfl k 4 (Tg.setState s') (.int .i64 s') hk (by omega) (tk_state _ _)
      have hok : Tg.GtOk { g with all := g.all.modify k (Tg.setState s') } := ⟨ok.r1, ok.r2, ok.p1, ok.p2, ok.t1, ok.ok.modify _ _ fun hk => (ok.ok _ (List.getElem_mem hk)).set s' (by omega) hs2 (by omega)⟩
      go_enter Try.func88, Try.ntmps88
      go_wp2_with (first | (go_at_call 87; refine (within_is _ _ _ true _ HW.out).mono ?_; rintro e w' ⟨rfl, rfl⟩) | (go_at_call 89; refine (rlets_any b _ _ _ hp hok (by simpa using hn)).mono ?_; rintro e w' ⟨rfl, hr, ht⟩))
      go_ret
      exact ⟨rfl, hr, ((Tch.refl _ _).setCell (p := ⟨ab, k * 5 + 4, none⟩) (Or.inl (Or.inr rfl)) _).trans ht⟩
    · have hs : Tg.change g ((k : Int) + 1) s s' = (g, 7) := by
        unfold Tg.change; rw [if_pos hv]; simp [hk, he]
      rw [hs]
      clear hs hv
      have he' : (g.all[k].state != s) = true := by simp [he]
      clear he
      go_enter Try.func88, Try.ntmps88
      go_wp2_with (go_at_call 87; refine (within_is _ _ _ true _ HW.out).mono ?_; rintro e w' ⟨rfl, rfl⟩)
      go_ret
      exact ⟨rfl, H, Tch.refl _ _⟩
  · have hs : Tg.change g n s s' = (g, 6) := by unfold Tg.change; rw [if_neg hv]
    rw [hs]
    clear hs
    have HW := hid (within_no hv)
    clear hv
    go_enter Try.func88, Try.ntmps88
    go_wp2_with (go_at_call 87; refine (within_is _ _ _ false _ HW.out).mono ?_; rintro e w' ⟨rfl, rfl⟩)
    go_ret
    exact ⟨rfl, H, Tch.refl _ _⟩

set_option maxHeartbeats 400000 in
theorem rgive_any (b : Nat) (g : Tg.Gt) (v : Value) (n : Int) (w : World) (h : RG w b g v) (ok : Tg.GtOk g) (hn : g.all.length ≤ 4398046511104) :
    Calls Try.prog 62 #[.pointer (some ⟨b, 0, none⟩), .int .i64 n] w fun e w' => e = .returned (.int .i64 (Tg.change g n 2 6).2) ∧ RG w' b (Tg.change g n 2 6).1 v ∧ Tch (RGs b v) w w' := by
  go_enter Try.func62, Try.ntmps62
  go_wp2_with (go_at_call 88; refine (rchange_any b g v n 2 6 _ h ok hn (by omega) (by omega)).mono ?_; rintro e w' ⟨rfl, hr, ht⟩)
  go_ret
  exact ⟨rfl, hr, ht⟩

set_option maxHeartbeats 400000 in
theorem rcancel_any (b : Nat) (g : Tg.Gt) (v : Value) (n : Int) (w : World) (h : RG w b g v) (ok : Tg.GtOk g) (hn : g.all.length ≤ 4398046511104) :
    Calls Try.prog 66 #[.pointer (some ⟨b, 0, none⟩), .int .i64 n] w fun e w' => e = .returned (.int .i64 (Tg.change g n 1 5).2) ∧ RG w' b (Tg.change g n 1 5).1 v ∧ Tch (RGs b v) w w' := by
  go_enter Try.func66, Try.ntmps66
  go_wp2_with (go_at_call 88; refine (rchange_any b g v n 1 5 _ h ok hn (by omega) (by omega)).mono ?_; rintro e w' ⟨rfl, hr, ht⟩)
  go_ret
  exact ⟨rfl, hr, ht⟩

end Go.Proofs.Ytekjgjhhjlcoaaa
