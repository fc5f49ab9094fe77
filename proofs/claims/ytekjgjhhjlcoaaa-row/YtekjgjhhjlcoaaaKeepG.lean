import Derived.Test.YtekjgjhhjlcoaaaKeepF
namespace Go.Proofs.Ytekjgjhhjlcoaaa
open Go.RowKit Go.Conc

section
variable {N : Nat} {w0 w : World} {tb gb : Nat} {g : Tg.Gt} {S : Nat → Prop} {lv : Value} {s : List Tg.Sn}

theorem stateOf_at (l : List Tg.Tk) (i : Nat) (hi : i < l.length) : Tg.stateOf l ((i : Int) + 1) = ((Tg.tkAt l i).state, 0) := by
  unfold Tg.stateOf
  rw [if_pos (by omega)]
  simp [hi, Tg.tkAt]

set_option maxRecDepth 20000 in
set_option maxHeartbeats 4000000 in
theorem klooks_any (K : KL N w0 w tb gb g S g.room lv s) (hN : N ≤ w.heap.size) (T : Tg.Turned s g.all g.room) (hl : g.all.length ≤ 10000000000000) :
    Calls Try.prog 17 #[.pointer (some ⟨tb, 0, none⟩)] w fun e w' => e = .returned (.bool true) ∧ ∃ s', KL N w0 w' tb gb g S g.room lv s' ∧ Tg.Knows s' g.all ∧ w.heap.size ≤ w'.heap.size := by
  have hsl := T.len
  obtain ⟨ao, cap, elv, _, hao⟩ := K.form
  have ok := K.ga.ok.ok
  have L0 : LK N w0 w tb gb g S lv s w s (Tg.lookAt s g.all 0) := ⟨K, rfl, fun k hk => by unfold Tg.lookAt; rw [if_neg (by omega)], Nat.le_refl _⟩
  have HSL := hid hsl
  have HLE : s.length ≤ 10000000000000 := by omega
  clear K hsl
  go_enter Try.func17, Try.ntmps17
  go_wp2
  go_loopg [3, 4, 5] s.length (fun r hv cv iv wr => ∃ i sk, ∃ cm : Int, i + r = s.length ∧ hv = .int .i64 (Tg.held (g.all.take i)) ∧ cv = .int .i64 cm ∧ iv = .int .i64 (i : Int) ∧ LK N w0 w tb gb g S lv s wr sk (Tg.lookAt s g.all i) ∧ (cm < 0 ∨ ∃ j, Tg.came s g.all j = true))
  case atStart => exact ⟨0, s, -1, by omega, rfl, rfl, rfl, L0, Or.inl (by omega)⟩
  case round =>
    obtain ⟨i, sk, cm, hi, rfl, rfl, rfl, L, hcm⟩ := hrel
    clear L0
    have c0 := L.kl.c0
    have c2 := L.kl.c2
    have c1 := L.kl.c1
    rw [elv] at c2
    by_cases hlt : i < s.length
    · obtain ⟨ab, rfl⟩ := hao i hlt
      have hil : i < g.all.length := by have := HSL.out; omega
      have hb := Tg.held_bounds g.pass _ (ok.take i)
      have hbl : (g.all.take i).length ≤ g.all.length := by simp; omega
      have tk := ok _ (List.getElem_mem hil)
      have k1 := tk.w1
      have k2 := tk.w2
      have wq : (Tg.snAt s i).weight = g.all[i].weight := by have := T.wt i; rwa [Tg.tkAt_lt hil] at this
      have hsucc := Tg.held_take_succ g.all i hil
      have hst := T.st i
      have came : Tg.came s g.all i = decide ((Tg.snAt s i).state ≠ 2 ∧ (Tg.tkAt g.all i).state = 2) := rfl
      have e1 := wrapId ((i : Int) + 1) (by omega) (by omega)
      have SA := ga_state L.kl.ga ((i : Int) + 1)
      rw [stateOf_at _ _ hil] at SA
      have PUT := fun w1 (L1 : LK N w0 w tb gb g S lv s w1 sk (Tg.lookAt s g.all i)) => L1.put elv i 1 (fun t => { t with state := (Tg.tkAt g.all i).state }) (.int .i64 (Tg.tkAt g.all i).state) hlt (by omega) rfl (Tg.midAt s g.all i 0) (by rw [Tg.midAt_zero, if_pos rfl, Tg.lookAt_at]) (fun k hk => by rw [Tg.midAt_zero, if_neg hk])
      have VAL := fun w1 (L1 : LK N w0 w tb gb g S lv s w1 sk (Tg.lookAt s g.all i)) => L1.kl.val elv i (by rw [L1.len]; exact hlt) (Tg.snAt s i) (by rw [L1.at' i hlt, Tg.lookAt_at])
      have hst2 : (Tg.tkAt g.all i).state = g.all[i].state := by rw [Tg.tkAt_lt hil]
      obtain ⟨wi, ewi⟩ : ∃ x, g.all[i].weight = x := ⟨_, rfl⟩
      obtain ⟨hd, ehd⟩ : ∃ x, Tg.held (g.all.take i) = x := ⟨_, rfl⟩
      obtain ⟨st, est⟩ : ∃ x, (Tg.tkAt g.all i).state = x := ⟨_, rfl⟩
      obtain ⟨ws, ews⟩ : ∃ x, (Tg.snAt s i).state = x := ⟨_, rfl⟩
      rw [ewi] at k1 k2 wq
      rw [← hst2, ewi, ehd, est] at hsucc
      rw [ehd] at hb ⊢
      rw [est, ews] at hst came
      rw [est] at SA
      simp only [est] at PUT
      simp only [wq, ews] at VAL
      have e2 := wrapId (hd + wi) (by omega) (by omega)
      have HSU := hid hsucc
      have CAME := hid came
      clear ehd ewi ews est hst2 wq hsucc came tk
      go_wp2_with fail
      refine SA.mono ?_
      rintro e w1 ⟨rfl, hg1, ht1⟩
      have L1 := L.same hN hg1 ht1
      clear SA L c0 c2 c1 hg1 ht1
      obtain ⟨v0, v1, _⟩ := VAL w1 L1
      have L2 := PUT w1 L1
      have c0 := L1.kl.c0
      have c2 := L1.kl.c2
      rw [elv] at c2
      have f1 := L1.kl.frow elv (i * 3 + 1)
      clear VAL PUT
      by_cases h2 : st = 2
      · subst h2
        by_cases hw : ws = 2
        · subst hw
          clear hst
          go_wp2
          go_roundg (gk - 1)
          case rel =>
            refine ⟨i + 1, _, cm, by omega, ?_, rfl, by simp, L2.form _ (fun k _ => (Tg.look_same s g.all i k (by rw [CAME.out]; rfl)).symm), hcm⟩
            rw [HSU.out]; simp
          case measure => omega
        · obtain rfl : ws = 1 := by omega
          clear hst hw
          have came : Tg.came s g.all i = true := by rw [CAME.out]; rfl
          have CM := hid came
          clear came CAME
          go_wp2
          go_loopg [10] i (fun r kv wr => ∃ k sk', k + r = i ∧ kv = .int .i64 (k : Int) ∧ LK N w0 w tb gb g S lv s wr sk' (Tg.midAt s g.all i k))
          case atStart => exact ⟨0, _, by omega, rfl, L2⟩
          case round =>
            obtain ⟨k, sk', hk, rfl, L3⟩ := hrel
            clear L2 L1 v0 v1 f1 c0 c2
            by_cases hki : k < i
            · have hks : k < s.length := by omega
              have emid : Tg.midAt s g.all i k k = Tg.lookAt s g.all i k := by unfold Tg.midAt; rw [if_neg (by omega), if_neg (by omega)]
              obtain ⟨_, u1, u2⟩ := L3.kl.val elv k (by rw [L3.len]; exact hks) (Tg.lookAt s g.all i k) (by rw [L3.at' k hks, emid])
              have u0 := L3.kl.c2
              rw [elv] at u0
              have fu := L3.kl.frow elv (k * 3 + 2)
              have e3 := wrapId ((k : Int) + 1) (by omega) (by omega)
              rw [Tg.lookAt_state _ _ _ _ hki] at u1
              have hsm := T.small ok i k hki (by omega)
              have P2 := L3.put elv k 2 (fun t => { t with passed := t.passed + 1 }) (.int .i64 ((Tg.lookAt s g.all i k).passed + 1)) hks (by omega) (by rw [emid]; rfl) (Tg.midAt s g.all i (k + 1))
              have P3 := fun (h : (Tg.tkAt g.all k).state ≠ 1) => L3.form (Tg.midAt s g.all i (k + 1)) (fun x _ => by
                unfold Tg.midAt
                by_cases ex : x = k
                · subst ex
                  have exi : ¬ x = i := by omega
                  simp only [exi, if_false]
                  rw [if_neg (fun y => h y.2), if_neg (fun y => by omega)]
                · split
                  · rfl
                  · by_cases hx : x < k ∧ (Tg.tkAt g.all x).state = 1
                    · rw [if_pos ⟨by omega, hx.2⟩, if_pos hx]
                    · rw [if_neg (fun y => hx ⟨by omega, y.2⟩), if_neg hx])
              have P4 := fun (h : (Tg.tkAt g.all k).state = 1) => P2 (by
                  rw [emid]; unfold Tg.midAt; rw [if_neg (by omega), if_pos ⟨by omega, h⟩]) (fun x ex => by
                unfold Tg.midAt
                split
                · rfl
                · by_cases hx : x < k ∧ (Tg.tkAt g.all x).state = 1
                  · rw [if_pos ⟨by omega, hx.2⟩, if_pos hx]
                  · rw [if_neg (fun y => hx ⟨by omega, y.2⟩), if_neg hx])
              clear P2
              obtain ⟨qs, eqs⟩ : ∃ x, (Tg.tkAt g.all k).state = x := ⟨_, rfl⟩
              obtain ⟨qp, eqp⟩ : ∃ x, (Tg.lookAt s g.all i k).passed = x := ⟨_, rfl⟩
              rw [eqs] at u1 hsm
              rw [eqp] at u2 hsm
              simp only [eqs] at P3 P4
              simp only [eqp] at P4
              clear eqs eqp emid
              by_cases hq : qs = 1
              · have P5 := P4 hq
                have hsm2 := hsm hq
                subst hq
                have e4 := wrapId (qp + 1) (by omega) (by omega)
                clear P3 P4 hsm
                go_wp2
                go_roundg (gk - 1)
                case rel => exact ⟨k + 1, _, by omega, by simp, P5⟩
                case measure => omega
              · have P5 := P3 hq
                have hq' : (qs == 1) = false := by simpa using hq
                clear P3 P4 hsm hq
                go_wp2
                go_roundg (gk - 1)
                case rel => exact ⟨k + 1, _, by omega, by simp, P5⟩
                case measure => omega
            · obtain rfl : k = i := by omega
              go_wp2
              go_roundg (s.length - (k + 1))
              case rel =>
                refine ⟨k + 1, _, _, by omega, ?_, rfl, by simp, L3.form _ (fun x _ => (Tg.midAt_end s g.all k x CM.out).symm), Or.inr ⟨k, CM.out⟩⟩
                rw [HSU.out]; simp
              case measure => omega
      · have h2' : (st == 2) = false := by simpa using h2
        have cf : Hid (Tg.came s g.all i = false) := hid (by rw [CAME.out]; simp [h2])
        have hh : Hid (hd = Tg.held (g.all.take (i + 1))) := hid (by rw [HSU.out, if_neg h2]; omega)
        clear CAME HSU h2
        by_cases hsw : st = ws
        · have hsw' : (st == ws) = true := by simpa using hsw
          clear hst hsw
          go_wp2
          go_roundg (gk - 1)
          case rel => exact ⟨i + 1, _, cm, by omega, by rw [hh.out], rfl, by simp, L2.form _ (fun k _ => (Tg.look_same s g.all i k cf.out).symm), hcm⟩
          case measure => omega
        · have hsw' : (st == ws) = false := by simpa using hsw
          obtain ⟨rfl, h3, h4⟩ : ws = 1 ∧ 2 ≤ st ∧ st ≤ 5 := by omega
          have h3' : decide (2 ≤ st) = true := by simpa using h3
          have h4' : decide (st ≤ 5) = true := by simpa using h4
          clear hst hsw h3 h4
          go_wp2
          go_roundg (gk - 1)
          case rel => exact ⟨i + 1, _, cm, by omega, by rw [hh.out], rfl, by simp, L2.form _ (fun k _ => (Tg.look_same s g.all i k cf.out).symm), hcm⟩
          case measure => omega
    · have ei : g.all.take i = g.all := List.take_of_length_le (by have := HSL.out; omega)
      rw [ei]
      have e2 : i = s.length := by omega
      subst e2
      have KN : Hid (Tg.Knows sk g.all) := hid (T.knows L.len L.at')
      have HA := ga_held L.kl.ga
      have rm := T.rm
      obtain ⟨hd, ehd⟩ : ∃ x, Tg.held g.all = x := ⟨_, rfl⟩
      rw [ehd] at HA rm ⊢
      clear ehd ei
      go_wp2_with fail
      refine HA.mono ?_
      rintro e w1 ⟨rfl, hg1, ht1⟩
      have L1 := L.same hN hg1 ht1
      have d1 := L1.kl.c1
      by_cases hc : cm < 0
      · have hc' : decide (cm < 0) = true := by simpa using hc
        go_wp2
        go_ret
        exact ⟨rfl, sk, L1.kl, KN.out, L1.size⟩
      · have hc' : decide (cm < 0) = false := by simpa using hc
        have hr : hd ≤ g.room := by
          rcases hcm with x | ⟨j, hj⟩
          · exact absurd x hc
          · rcases rm with y | y
            · rw [y j] at hj; exact Bool.noConfusion hj
            · exact y
        have hr' : decide (hd ≤ g.room) = true := by simpa using hr
        go_wp2
        go_ret
        exact ⟨rfl, sk, L1.kl, KN.out, L1.size⟩
end

end Go.Proofs.Ytekjgjhhjlcoaaa
