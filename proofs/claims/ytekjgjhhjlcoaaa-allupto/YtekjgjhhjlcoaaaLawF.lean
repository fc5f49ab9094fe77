import Derived.Test.YtekjgjhhjlcoaaaLawE
namespace Go.Proofs.Ytekjgjhhjlcoaaa
open Go.RowKit Go.Conc

section
variable {N B : Nat} {w0 w w' : World} {wb : Nat} {lv : Value} {ps : List Pr} {x : Ls}

attribute [local go_sem] alloc_drewN setCell_drewN

set_option maxRecDepth 20000 in
set_option maxHeartbeats 1000000 in
theorem step_new (W : WI N B w0 w wb lv ps x) (hN : N ≤ w.heap.size) (e0 a b c : Int) (hB : B + 1 ≤ 3518437208883) :
    Calls Try.prog 32 #[.pointer (some ⟨wb, 0, none⟩), stepV 1 e0 a b c] w fun e w' => e = .returned (.bool true) ∧
      ∃ lv' ps', WI N (B + 1) w0 w' wb lv' ps' x ∧ ps.length ≤ ps'.length ∧ (Tg.newErr a b = 0 → ps'.length = ps.length + 1) ∧ w.heap.size ≤ w'.heap.size := by
  have TG : Tch (fun _ => False) w (w.alloc (.cells #[.int .i64 1, .int .i64 e0, .int .i64 a, .int .i64 b, .int .i64 c] 79)) := (Tch.refl _ _).alloc _
  have WG := W.grow hN TG
  have HM := more_any WG (by simp; omega) e0 a b c hB
  unfold stepV
  go_enter Try.func32, Try.ntmps32
  go_wp2_with (go_at_call 55; refine HM.mono ?_; rintro e w1 ⟨rfl, lv', ps', W', h1, h2, h3⟩)
  go_ret
  exact ⟨rfl, lv', ps', W', h1, h2, by simp at h3; omega⟩

theorem step_any (W : WI N B w0 w wb lv ps x) (hN : N ≤ w.heap.size) (hps : 0 < ps.length) (kd e0 a b c : Int) (hk : kd ≤ 5) (he1 : -9223372036854775808 ≤ e0) (he2 : e0 ≤ 9223372036854775807) (hB : B + 1 ≤ 3518437208883) :
    Calls Try.prog 32 #[.pointer (some ⟨wb, 0, none⟩), stepV kd e0 a b c] w fun e w' => e = .returned (.bool true) ∧
      ∃ lv' ps', WI N (B + 1) w0 w' wb lv' ps' x ∧ ps.length ≤ ps'.length ∧ w.heap.size ≤ w'.heap.size := by
  by_cases h1 : kd = 1
  · subst h1
    refine (step_new W hN e0 a b c hB).mono ?_
    rintro e w' ⟨rfl, lv', ps', W', h1, _, h3⟩
    exact ⟨rfl, lv', ps', W', h1, h3⟩
  · refine (step_rest W hN hps kd e0 a b c hk h1 he1 he2 (B + 1) (by omega) (fun _ => rfl) hB).mono ?_
    rintro e w' ⟨rfl, ps', W', h1, h3⟩
    exact ⟨rfl, lv, ps', W', by omega, h3⟩

theorem looks_any (W : WI N B w0 w wb lv ps x) (hN : N ≤ w.heap.size) :
    Calls Try.prog 33 #[.pointer (some ⟨wb, 0, none⟩)] w fun e w' => e = .returned (.bool true) ∧ WI N B w0 w' wb lv ps x ∧ w'.heap.size = w.heap.size := by
  refine (looks_lists W.blk W.li).mono ?_
  rintro e w' ⟨rfl, n, rfl⟩
  exact ⟨rfl, W.grow hN ((Tch.refl _ _).drewN _), rfl⟩

/-- What the play of the first five calls keeps. -/
def AskI (w : World) (B n : Nat) (w' : World) : Prop :=
  ∃ lv ps, WI w.heap.size B w w' w.heap.size lv ps ⟨.slice none 0 0, .slice none 0 0, []⟩ ∧ ps.length = n ∧ w.heap.size ≤ w'.heap.size

theorem play_asks (w : World) : Play 3518437208883 5 w (AskI w) where
  c0 := by
    rintro B n w' ⟨lv, ps, W, rfl, hz⟩
    have c := W.c0
    obtain ⟨ao, cap, rfl, _⟩ := W.form
    exact ⟨ao, cap, c⟩
  bel := by rintro B n w' ⟨lv, ps, W, rfl, hz⟩; exact W.bel
  num := by rintro B n w' ⟨lv, ps, W, rfl, hz⟩; exact W.num
  mono := by rintro B n w' ⟨lv, ps, W, rfl, hz⟩; exact ⟨lv, ps, W.mono (by omega), rfl, hz⟩
  first := by
    have W0 : WI w.heap.size 0 w (w.alloc (.cells #[.slice none 0 0, .slice none 0 0, .slice none 0 0] 76)) w.heap.size (.slice none 0 0) [] ⟨.slice none 0 0, .slice none 0 0, []⟩ :=
      ⟨heap_alloc_new _ _, World.ownsRow_nil _ _ _ _, by simp, by simp, Nat.le_refl _, by simp [Value.ownBlock], (Below.refl _ _).alloc (Nat.le_refl _) _, by simp, LI.nil _ _, by simp⟩
    refine (step_new W0 (by simp) 0 10 2 0 (by omega)).mono ?_
    rintro e w1 ⟨rfl, lv1, ps1, W1, _, hl1, hz1⟩
    have hl1' := hl1 rfl
    simp at hl1' hz1
    exact ⟨rfl, lv1, ps1, W1, hl1', by omega⟩
  step := by
    rintro B n w' kd e0 a b c ⟨lv, ps, W, rfl, hz⟩ hn hk he1 he2 hB
    refine (step_any W hz hn kd e0 a b c hk he1 he2 hB).mono ?_
    rintro e w1 ⟨rfl, lv1, ps1, W1, hl, hz1⟩
    exact ⟨rfl, ps1.length, hl, lv1, ps1, W1, rfl, by omega⟩
  look := by
    rintro B n w' kd e0 a b c ⟨lv, ps, W, rfl, hz⟩ hn hk he1 he2 hB
    refine (step_rest W hz hn kd e0 a b c (by omega) (by omega) he1 he2 B (Nat.le_refl _) (by omega) hB).mono ?_
    rintro e w1 ⟨rfl, ps1, W1, hl, hz1⟩
    exact ⟨rfl, lv, ps1, W1, by omega, by omega⟩
  looks := by
    rintro B n w' ⟨lv, ps, W, rfl, hz⟩
    refine (looks_any W hz).mono ?_
    rintro e w1 ⟨rfl, W1, hz1⟩
    exact ⟨rfl, lv, ps, W1, rfl, by omega⟩

set_option maxHeartbeats 400000 in
theorem asks_law (sv : Value) (ss : List (Int × Int × Int × Int × Int)) (w : World) (S : Script w w.heap.size sv ss) :
    Calls Try.prog 3 #[sv] w fun e w' => e = .returned (.bool true) ∧ Below w.heap.size w w' := by
  have H := plays_gen sv ss w S 5 (by omega) _ 3518437208883 (by obtain ⟨_, _, _, h, _⟩ := S.form; omega) (play_asks w)
  obtain ⟨ao, cap, rfl, hn, hcells⟩ := S.form
  clear S hcells
  go_enter Try.func3, Try.ntmps3
  go_wp2_with (go_at_call 12; refine H.mono ?_; rintro e w1 ⟨rfl, hb⟩)
  go_ret
  exact ⟨rfl, hb⟩
end

end Go.Proofs.Ytekjgjhhjlcoaaa
