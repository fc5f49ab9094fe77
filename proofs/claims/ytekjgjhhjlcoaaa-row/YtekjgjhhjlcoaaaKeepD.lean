import Derived.Test.YtekjgjhhjlcoaaaKeepC
import Derived.Deep.RegionWith
namespace Go.Proofs.Ytekjgjhhjlcoaaa
open Go.RowKit Go.Conc

theorem change_ok2 {g : Tg.Gt} {n : Nat} (hn : n < g.all.length) {s s' : Int} (h : g.all[n].state = s) : Tg.change g ((n : Int) + 1) s s' = ({ g with all := Tg.letIn g.room g.pass (g.all.modify n (Tg.setState s')) }, 0) := by
  unfold Tg.change; rw [if_pos (by omega)]; simp [hn, h]
theorem change_no {g : Tg.Gt} {n : Nat} (hn : n < g.all.length) {s s' : Int} (h : g.all[n].state ≠ s) : Tg.change g ((n : Int) + 1) s s' = (g, 7) := by
  unfold Tg.change; rw [if_pos (by omega)]; simp [hn, h]

section
variable {N : Nat} {w0 w : World} {tb gb : Nat} {g : Tg.Gt} {S : Nat → Prop} {lv : Value} {s : List Tg.Sn}

theorem KL.drew {room : Int} (h : KL N w0 w tb gb g S room lv s) : KL N w0 w.drew tb gb g S room lv s :=
  ⟨h.blk, ownsRow_keep h.row fun _ _ => rfl, h.ga.keep fun _ _ => rfl, h.tS, h.rS, h.low, h.rlow, h.slow, ⟨h.bel.os, h.bel.tape, h.bel.output, h.bel.size, h.bel.block⟩⟩

theorem tch_cell {T : Nat → Prop} {u u' : World} (h : Tch T u u') {a : Addr} (hl : a.block < u.heap.size) (hn : ¬ T a.block) : u'.cell? a = u.cell? a := by
  unfold World.cell?
  rw [h.block a.block hl hn]

/-- The act that the call has put down for itself stays as it is. -/
theorem KL.actCell (K : KL N w0 w tb gb g S g.room lv s) {w1 : World} {g' : Tg.Gt} (x a b c : Int) (h : GS (w.alloc (.cells #[.int .i64 x, .int .i64 a, .int .i64 b, .int .i64 c] 32)).drew S gb g' w1) (o : Nat) :
    w1.cell? ⟨w.heap.size, o, none⟩ = (#[.int .i64 x, .int .i64 a, .int .i64 b, .int .i64 c] : Array Value)[o]? := by
  obtain ⟨S', _, ht, _⟩ := h
  rw [tch_cell ht (by simp) (fun y => by have := K.ga.lt _ y; simp at this), World.cell?_drew, World.cell?_alloc_at _ _ _ _ rfl]

attribute [local go_sem] alloc_drewN setCell_drewN

set_option maxRecDepth 20000 in
set_option maxHeartbeats 2000000 in
theorem does_give (K : KL N w0 w tb gb g S g.room lv s) (hN : N ≤ w.heap.size) (kn : Tg.Knows s g.all) (x a b c : Int) (hx : I64 x) (ha : I64 a) (hr : pk x 8 = 4 ∨ pk x 8 = 5) (hl : g.all.length ≤ 10000000000000) :
    Calls Try.prog 16 #[.pointer (some ⟨tb, 0, none⟩), actV x a b c] w fun e w' => e = .returned (.bool true) ∧
      ∃ g' S' s', KL N w0 w' tb gb g' S' g.room lv s' ∧ w.heap.size ≤ w'.heap.size ∧ ((g' = g ∧ s' = s) ∨ ∃ n, n < g.all.length ∧ g' = { g with all := Tg.letIn g.room g.pass (g.all.modify n (Tg.setState 6)) } ∧ s' = s.modify n fun t => { t with state := 6 }) := by
  have P1 := kpick_any x 8 (by omega) (by omega) hx.1 hx.2
  have hsl := kn.len
  have K1 := K.grow hN (w' := w.alloc (.cells #[.int .i64 x, .int .i64 a, .int .i64 b, .int .i64 c] 32)) ((Tch.refl _ _).alloc _)
  have t0 := K1.c0
  have t2 := K1.c2
  generalize pk x 8 = r at P1 hr
  obtain ⟨ao, cap, elv, _, hao⟩ := K.form
  by_cases h0 : s.length = 0
  · rw [h0] at elv
    have h0' := hid h0
    rw [elv] at t2
    clear h0 hao hsl kn hN K hl
    unfold actV
    rcases hr with rfl | rfl
    all_goals
      go_enter Try.func16, Try.ntmps16
      go_wp2_with (first | (go_at_call_of 14 (Value.int .i64 8); refine (P1 _).mono ?_; rintro e w' ⟨rfl, rfl⟩) | fail)
      go_ret
      exact ⟨rfl, g, S, s, K1, by simp, Or.inl ⟨rfl, rfl⟩⟩
  · have hpos : 0 < s.length := by omega
    have P2 := kpick_any a s.length hpos (by omega) ha.1 ha.2
    have hn := pk_lt a s.length hpos
    generalize pk a s.length = n at P2 hn
    obtain ⟨ab, rfl⟩ := hao n hn
    have hng : n < g.all.length := by omega
    have hst : s[n].state = g.all[n].state := by
      have := kn.st n
      rwa [Tg.snAt_lt hn, Tg.tkAt_lt hng] at this
    have e1 := wrapId ((n : Int) + 1) (by omega) (by omega)
    rw [elv] at t2
    have HSL := hid hsl
    have GV := fun m => ga_give (K1.drewN m).ga ((n : Int) + 1) hl
    clear hsl hao h0 kn
    unfold actV
    by_cases he : g.all[n].state = 2
    · have ec := change_ok2 hng (s' := 6) he
      simp only [ec] at GV
      have hst2 : (s[n].state == 2) = true := by rw [hst, he]; rfl
      clear ec he hst
      rcases hr with rfl | rfl
      all_goals
        go_enter Try.func16, Try.ntmps16
        go_wp2_with (first | (go_at_call_of 14 (Value.int .i64 8); refine (P1 _).mono ?_; rintro e w' ⟨rfl, rfl⟩) | fail)
        go_quiet ((go_at_call 14; exact Calls.quiet_of_same (P2 _)))
        go_wp2_with fail
        refine (GV nq).mono ?_
        rintro e w1 ⟨rfl, G1⟩
        obtain ⟨S1, K2, hz⟩ := (K1.drewN nq).gs (by simp; omega) G1
        simp at hz
        have u2 := K2.c2
        have r1 := K2.at elv n 1 hn (by omega)
        have f1 := K2.frow elv (n * 3 + 1)
        rw [elv] at u2
        simp [snVals] at r1
        have K3 := K2.put elv n 1 (fun t => { t with state := 6 }) (.int .i64 6) hn (by omega) rfl
        clear GV G1 K1 K2 P1 P2
        go_wp2
        go_ret
        exact ⟨rfl, _, S1, _, K3, by simp; omega, Or.inr ⟨n, hng, rfl, rfl⟩⟩
    · have ec := change_no hng (s' := 6) he
      simp only [ec] at GV
      have hst2 : (s[n].state == 2) = false := by rw [hst]; simpa using he
      clear ec he hst
      rcases hr with rfl | rfl
      all_goals
        go_enter Try.func16, Try.ntmps16
        go_wp2_with (first | (go_at_call_of 14 (Value.int .i64 8); refine (P1 _).mono ?_; rintro e w' ⟨rfl, rfl⟩) | fail)
        go_quiet ((go_at_call 14; exact Calls.quiet_of_same (P2 _)))
        go_wp2_with fail
        refine (GV nq).mono ?_
        rintro e w1 ⟨rfl, G1⟩
        obtain ⟨S1, K2, hz⟩ := (K1.drewN nq).gs (by simp; omega) G1
        simp at hz
        have u2 := K2.c2
        have r1 := K2.at elv n 1 hn (by omega)
        rw [elv] at u2
        simp [snVals] at r1
        clear GV G1 K1 P1 P2
        go_wp2
        go_ret
        exact ⟨rfl, g, S1, s, K2, by omega, Or.inl ⟨rfl, rfl⟩⟩

set_option maxRecDepth 20000 in
set_option maxHeartbeats 2000000 in
theorem does_cancel (K : KL N w0 w tb gb g S g.room lv s) (hN : N ≤ w.heap.size) (kn : Tg.Knows s g.all) (x a b c : Int) (hx : I64 x) (ha : I64 a) (hr : pk x 8 = 6) (hl : g.all.length ≤ 10000000000000) :
    Calls Try.prog 16 #[.pointer (some ⟨tb, 0, none⟩), actV x a b c] w fun e w' => e = .returned (.bool true) ∧
      ∃ g' S', KL N w0 w' tb gb g' S' g.room lv s ∧ w.heap.size ≤ w'.heap.size ∧ (g' = g ∨ ∃ n, n < g.all.length ∧ (Tg.tkAt g.all n).state = 1 ∧ g' = { g with all := Tg.letIn g.room g.pass (g.all.modify n (Tg.setState 5)) }) := by
  have P1 := kpick_any x 8 (by omega) (by omega) hx.1 hx.2
  have hsl := kn.len
  have K1 := K.grow hN (w' := w.alloc (.cells #[.int .i64 x, .int .i64 a, .int .i64 b, .int .i64 c] 32)) ((Tch.refl _ _).alloc _)
  have t0 := K1.c0
  have t2 := K1.c2
  rw [hr] at P1
  clear hr
  obtain ⟨ao, cap, elv, _, hao⟩ := K.form
  by_cases h0 : s.length = 0
  · rw [h0] at elv
    have h0' := hid h0
    rw [elv] at t2
    clear h0 hao hsl kn hN K hl
    unfold actV
    go_enter Try.func16, Try.ntmps16
    go_wp2_with (first | (go_at_call_of 14 (Value.int .i64 8); refine (P1 _).mono ?_; rintro e w' ⟨rfl, rfl⟩) | fail)
    go_ret
    exact ⟨rfl, g, S, K1, by simp, Or.inl rfl⟩
  · have hpos : 0 < s.length := by omega
    have P2 := kpick_any a s.length hpos (by omega) ha.1 ha.2
    have hn := pk_lt a s.length hpos
    generalize pk a s.length = n at P2 hn
    obtain ⟨ab, rfl⟩ := hao n hn
    have hng : n < g.all.length := by omega
    have hst : s[n].state = g.all[n].state := by
      have := kn.st n
      rwa [Tg.snAt_lt hn, Tg.tkAt_lt hng] at this
    have e1 := wrapId ((n : Int) + 1) (by omega) (by omega)
    rw [elv] at t2
    have HSL := hid hsl
    have GV := fun m => ga_cancel (K1.drewN m).ga ((n : Int) + 1) hl
    clear hsl hao h0 kn
    unfold actV
    by_cases he : g.all[n].state = 1
    · have ec := change_ok2 hng (s' := 5) he
      simp only [ec] at GV
      have hst2 : (s[n].state == 1) = true := by rw [hst, he]; rfl
      have HE : Hid ((Tg.tkAt g.all n).state = 1) := hid (by rw [Tg.tkAt_lt hng]; exact he)
      clear ec he hst
      go_enter Try.func16, Try.ntmps16
      go_wp2_with (first | (go_at_call_of 14 (Value.int .i64 8); refine (P1 _).mono ?_; rintro e w' ⟨rfl, rfl⟩) | fail)
      go_quiet ((go_at_call 14; exact Calls.quiet_of_same (P2 _)))
      go_wp2_with fail
      refine (GV nq).mono ?_
      rintro e w1 ⟨rfl, G1⟩
      obtain ⟨S1, K2, hz⟩ := (K1.drewN nq).gs (by simp; omega) G1
      simp at hz
      have u2 := K2.c2
      have r1 := K2.at elv n 1 hn (by omega)
      rw [elv] at u2
      simp [snVals] at r1
      clear GV G1 K1 P1 P2
      go_wp2
      go_ret
      exact ⟨rfl, _, S1, K2, by omega, Or.inr ⟨n, hng, HE.out, rfl⟩⟩
    · have ec := change_no hng (s' := 5) he
      simp only [ec] at GV
      have hst2 : (s[n].state == 1) = false := by rw [hst]; simpa using he
      clear ec he hst
      go_enter Try.func16, Try.ntmps16
      go_wp2_with (first | (go_at_call_of 14 (Value.int .i64 8); refine (P1 _).mono ?_; rintro e w' ⟨rfl, rfl⟩) | fail)
      go_quiet ((go_at_call 14; exact Calls.quiet_of_same (P2 _)))
      go_wp2_with fail
      refine (GV nq).mono ?_
      rintro e w1 ⟨rfl, G1⟩
      obtain ⟨S1, K2, hz⟩ := (K1.drewN nq).gs (by simp; omega) G1
      simp at hz
      have u2 := K2.c2
      have r1 := K2.at elv n 1 hn (by omega)
      rw [elv] at u2
      simp [snVals] at r1
      clear GV G1 K1 P1 P2
      go_wp2
      go_ret
      exact ⟨rfl, g, S1, K2, by omega, Or.inl rfl⟩

set_option maxRecDepth 20000 in
set_option maxHeartbeats 2000000 in
theorem does_tick (K : KL N w0 w tb gb g S g.room lv s) (hN : N ≤ w.heap.size) (x a b c : Int) (hx : I64 x) (ha : I64 a) (hr : pk x 8 = 7) (hr2 : pk a 2 = 0) (hl : g.all.length ≤ 10000000000000) (ht : g.time ≤ 4611686018427387904) :
    Calls Try.prog 16 #[.pointer (some ⟨tb, 0, none⟩), actV x a b c] w fun e w' => e = .returned (.bool true) ∧
      ∃ S', KL N w0 w' tb gb (Tg.tick g) S' g.room lv s ∧ w.heap.size ≤ w'.heap.size := by
  have P1 := kpick_any x 8 (by omega) (by omega) hx.1 hx.2
  have P2 := kpick_any a 2 (by omega) (by omega) ha.1 ha.2
  have K1 := K.grow hN (w' := w.alloc (.cells #[.int .i64 x, .int .i64 a, .int .i64 b, .int .i64 c] 32)) ((Tch.refl _ _).alloc _)
  have t0 := K1.c0
  have GT := ga_tick K1.ga hl ht
  rw [hr] at P1
  rw [hr2] at P2
  clear hr hr2
  unfold actV
  go_enter Try.func16, Try.ntmps16
  go_wp2_with (first | (go_at_call_of 14 (Value.int .i64 8); refine (P1 _).mono ?_; rintro e w' ⟨rfl, rfl⟩) | (go_at_call_of 14 (Value.int .i64 2); refine (P2 _).mono ?_; rintro e w' ⟨rfl, rfl⟩) | fail)
  refine GT.mono ?_
  rintro e w1 ⟨rfl, G1⟩
  obtain ⟨S1, K2, hz⟩ := K1.gs (by simp; omega) G1
  simp at hz
  clear GT G1 K1 P1 P2
  go_wp2
  go_ret
  exact ⟨rfl, S1, K2, by omega⟩

set_option maxRecDepth 20000 in
set_option maxHeartbeats 2000000 in
theorem does_resize (K : KL N w0 w tb gb g S g.room lv s) (hN : N ≤ w.heap.size) (x a b c : Int) (hx : I64 x) (ha : I64 a) (hb : I64 b) (hr : pk x 8 = 7) (hr2 : pk a 2 = 1) (hl : g.all.length ≤ 10000000000000) :
    Calls Try.prog 16 #[.pointer (some ⟨tb, 0, none⟩), actV x a b c] w fun e w' => e = .returned (.bool true) ∧
      ∃ S', KL N w0 w' tb gb { g with room := (pk b 30 : Int), all := Tg.letIn (pk b 30) g.pass g.all } S' (pk b 30) lv s ∧ w.heap.size ≤ w'.heap.size := by
  have P1 := kpick_any x 8 (by omega) (by omega) hx.1 hx.2
  have P2 := kpick_any a 2 (by omega) (by omega) ha.1 ha.2
  have P3 := kpick_any b 30 (by omega) (by omega) hb.1 hb.2
  have l3 := pk_lt b 30 (by omega)
  have K1 := K.grow hN (w' := w.alloc (.cells #[.int .i64 x, .int .i64 a, .int .i64 b, .int .i64 c] 32)) ((Tch.refl _ _).alloc _)
  have t0 := K1.c0
  rw [hr] at P1
  rw [hr2] at P2
  clear hr hr2
  generalize pk b 30 = rb at P3 l3 ⊢
  have er : Tg.resize g (rb : Int) = ({ g with room := (rb : Int), all := Tg.letIn rb g.pass g.all }, 0) := by unfold Tg.resize; rw [if_pos (by omega)]
  have GR := ga_resize K1.drew.ga (rb : Int) hl
  have KA := fun w1 => K.actCell (w1 := w1) (g' := (Tg.resize g (rb : Int)).1) x a b c
  rw [er] at GR
  simp only [er] at KA
  clear er
  unfold actV
  go_enter Try.func16, Try.ntmps16
  go_wp2_with (first | (go_at_call_of 14 (Value.int .i64 8); refine (P1 _).mono ?_; rintro e w' ⟨rfl, rfl⟩) | (go_at_call_of 14 (Value.int .i64 2); refine (P2 _).mono ?_; rintro e w' ⟨rfl, rfl⟩) | fail)
  go_region_with (first | (go_at_call 14; refine (P3 _).mono ?_; rintro e w' ⟨rfl, rfl⟩) | (go_at_call 24; refine GR.mono ?_; rintro e w1 ⟨rfl, G1⟩; obtain ⟨S1, K2, hz⟩ := K1.drew.gs (by simp; omega) G1; have ca := KA w1 G1 2; have f1 := K2.fr 1; have d1 := K2.c1) | fail)
  all_goals
    simp at hz ca
    clear GR G1 K1 P1 P2
    go_wp2_with (first | (go_at_call 14; refine (P3 _).mono ?_; rintro e w' ⟨rfl, rfl⟩) | fail)
    go_ret
    exact ⟨rfl, S1, K2.setRoom _, by simp; omega⟩
end

end Go.Proofs.Ytekjgjhhjlcoaaa
