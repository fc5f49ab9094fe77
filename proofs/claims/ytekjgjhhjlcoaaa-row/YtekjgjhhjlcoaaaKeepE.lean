import Derived.Test.YtekjgjhhjlcoaaaKeepD
namespace Go.Proofs.Ytekjgjhhjlcoaaa
open Go.RowKit Go.Conc

/-- What an act leaves: the gate, what is known of it, and how far both have grown. -/
structure Did (N : Nat) (w0 w : World) (tb gb : Nat) (g : Tg.Gt) (w' : World) (g' : Tg.Gt) (S' : Nat → Prop) (lv' : Value) (s' : List Tg.Sn) (one : Prop) : Prop where
  kl : KL N w0 w' tb gb g' S' g'.room lv' s'
  turned : Tg.Turned s' g'.all g'.room
  len : g'.all.length ≤ g.all.length + 1
  time : g'.time ≤ g.time + 1
  pass : g'.pass = g.pass
  row : one → Tg.OneRow g.all → Tg.OneRow g'.all
  size : w.heap.size ≤ w'.heap.size

section
variable {N : Nat} {w0 w : World} {tb gb : Nat} {g : Tg.Gt} {S : Nat → Prop} {lv : Value} {s : List Tg.Sn}

theorem turned_same (K : KL N w0 w tb gb g S g.room lv s) (kn : Tg.Knows s g.all) : Tg.Turned s g.all g.room := by
  have h := (kn.same g.room).turned (pass := g.pass)
  rwa [K.ga.quiet.stays] at h

theorem does_any (K : KL N w0 w tb gb g S g.room lv s) (hN : N ≤ w.heap.size) (kn : Tg.Knows s g.all) (x a b c : Int) (hx : I64 x) (ha : I64 a) (hb : I64 b) (hc : I64 c) (hl : g.all.length + 1 ≤ 8796093022208) (ht : g.time ≤ 4611686018427387904) :
    Calls Try.prog 16 #[.pointer (some ⟨tb, 0, none⟩), actV x a b c] w fun e w' => e = .returned (.bool true) ∧ ∃ g' S' lv' s', Did N w0 w tb gb g w' g' S' lv' s' (pk x 8 < 4 → pk b 3 = 1) := by
  have h8 := pk_lt x 8 (by omega)
  have ok := K.ga.ok
  by_cases h4 : pk x 8 < 4
  · refine (does_ask K hN kn.len x a b c hx ha hb hc h4 hl ht).mono ?_
    rintro e w' ⟨rfl, S', lv', K', hz⟩
    refine ⟨rfl, _, S', lv', _, K', (Tg.ticket_acted kn ok _ _ _).turned, ?_, ?_, rfl, fun h1 h2 => ?_, hz⟩
    · simp [Tg.asked, Tg.letIn_length]
    · show g.time ≤ g.time + 1; omega
    · exact (h2.snoc _ (by show ((pk b 3 : Nat) : Int) = 1; rw [h1 h4]; rfl) rfl).letIn _ _
  · by_cases h5 : pk x 8 = 4 ∨ pk x 8 = 5
    · refine (does_give K hN kn x a b c hx ha h5 (by omega)).mono ?_
      rintro e w' ⟨rfl, g', S', s', K', hz, h | ⟨n, hn, h1, h2⟩⟩
      · obtain ⟨rfl, rfl⟩ := h
        exact ⟨rfl, _, S', lv, _, K', turned_same K kn, by omega, by omega, rfl, fun _ h => h, hz⟩
      · subst h1 h2
        refine ⟨rfl, _, S', lv, _, K', (kn.give n hn g.room).turned, ?_, ?_, rfl, fun _ h => (h.modify n 6 (by omega)).letIn _ _, hz⟩
        · simp [Tg.letIn_length]
        · show g.time ≤ g.time + 1; omega
    · by_cases h6 : pk x 8 = 6
      · refine (does_cancel K hN kn x a b c hx ha h6 (by omega)).mono ?_
        rintro e w' ⟨rfl, g', S', K', hz, h | ⟨n, hn, hs, h1⟩⟩
        · subst h
          exact ⟨rfl, _, S', lv, _, K', turned_same K kn, by omega, by omega, rfl, fun _ h => h, hz⟩
        · subst h1
          refine ⟨rfl, _, S', lv, _, K', (kn.cancel n hn hs g.room).turned, ?_, ?_, rfl, fun _ h => (h.modify n 5 (by omega)).letIn _ _, hz⟩
          · simp [Tg.letIn_length]
          · show g.time ≤ g.time + 1; omega
      · have h7 : pk x 8 = 7 := by omega
        have h2 := pk_lt a 2 (by omega)
        by_cases h0 : pk a 2 = 0
        · refine (does_tick K hN x a b c hx ha h7 h0 (by omega) ht).mono ?_
          rintro e w' ⟨rfl, S', K', hz⟩
          refine ⟨rfl, _, S', lv, _, K', (kn.tick _ g.room).turned, ?_, ?_, rfl, fun _ h => (h.late _).letIn _ _, hz⟩
          · simp [Tg.tick, Tg.letIn_length]
          · show g.time + 1 ≤ g.time + 1; omega
        · refine (does_resize K hN x a b c hx ha hb h7 (by omega) (by omega)).mono ?_
          rintro e w' ⟨rfl, S', K', hz⟩
          refine ⟨rfl, _, S', lv, _, K', (kn.same _).turned, ?_, ?_, rfl, fun _ h => h.letIn _ _, hz⟩
          · simp [Tg.letIn_length]
          · show g.time ≤ g.time + 1; omega
end

set_option maxRecDepth 20000 in
set_option maxHeartbeats 2000000 in
theorem known_any (w : World) : Calls Try.prog 15 #[] w fun e w' => e = .returned (.bool true) ∧ Tch (fun _ => False) w w' := by
  have BG := begun_any w.heap.size w w (Nat.le_refl _) (Below.refl _ _) 5 3 (by omega) (by omega)
  have a1 : Tg.ask (Tg.fresh 5 3) 3 1 (-1) = (⟨5, 3, 0, [⟨3, 1, -1, 0, 2⟩]⟩, 1, 2, 0) := by rfl
  have a2 : Tg.ask ⟨5, 3, 0, [⟨3, 1, -1, 0, 2⟩]⟩ 3 1 (-1) = (⟨5, 3, 0, [⟨3, 1, -1, 0, 2⟩, ⟨3, 1, -1, 0, 1⟩]⟩, 2, 1, 0) := by rfl
  have a3 : Tg.change ⟨5, 3, 0, [⟨3, 1, -1, 0, 2⟩, ⟨3, 1, -1, 0, 1⟩]⟩ 1 2 6 = (⟨5, 3, 0, [⟨3, 1, -1, 0, 6⟩, ⟨3, 1, -1, 0, 2⟩]⟩, 0) := by rfl
  have a4 : Tg.stateOf [⟨3, 1, -1, 0, 6⟩, ⟨3, 1, -1, 0, 2⟩] 2 = (2, 0) := by rfl
  have a5 : Tg.held [⟨3, 1, -1, 0, 6⟩, ⟨3, 1, -1, 0, 2⟩] = 3 := by rfl
  go_enter Try.func15, Try.ntmps15
  go_wp2_with (first | (go_at_call 13; refine BG.mono ?_; rintro e w1 ⟨tb, gb, S1, rfl, K1, hz1⟩; have c1 := K1.c0) | fail)
  have A1 := ga_ask K1.ga 3 1 (-1) (by simp [Tg.fresh]) (by simp [Tg.fresh])
  rw [a1] at A1
  refine A1.mono ?_
  rintro e w2 ⟨rfl, G2⟩
  obtain ⟨S2, K2, hz2⟩ := K1.gs hz1 G2
  have c2 := K2.c0
  have A2 := ga_ask K2.ga 3 1 (-1) (by simp) (by simp)
  rw [a2] at A2
  clear BG K1 A1 G2 c1
  go_wp2_with fail
  refine A2.mono ?_
  rintro e w3 ⟨rfl, G3⟩
  obtain ⟨S3, K3, hz3⟩ := K2.gs (by omega) G3
  have c3 := K3.c0
  have A3 := ga_give K3.ga 1 (by simp)
  rw [a3] at A3
  clear K2 A2 G3 c2
  go_wp2_with fail
  refine A3.mono ?_
  rintro e w4 ⟨rfl, G4⟩
  obtain ⟨S4, K4, hz4⟩ := K3.gs (by omega) G4
  have c4 := K4.c0
  have A4 := ga_state K4.ga 2
  rw [a4] at A4
  clear K3 A3 G4 c3
  go_wp2_with fail
  refine A4.mono ?_
  rintro e w5 ⟨rfl, G5, T5⟩
  have K5 := K4.same (by omega) G5 T5
  have hz5 := T5.size
  have c5 := K5.c0
  have A5 := ga_held K5.ga
  rw [a5] at A5
  clear K4 A4 G5 c4 T5
  go_wp2_with fail
  refine A5.mono ?_
  rintro e w6 ⟨rfl, G6, T6⟩
  have K6 := K5.same (by omega) G6 T6
  clear K5 A5 G6 c5 T6 a1 a2 a3 a4 a5
  go_wp2
  go_ret
  exact ⟨rfl, ⟨K6.bel.os, K6.bel.tape, K6.bel.output, K6.bel.size, fun k hk _ => K6.bel.block k hk⟩⟩

end Go.Proofs.Ytekjgjhhjlcoaaa
