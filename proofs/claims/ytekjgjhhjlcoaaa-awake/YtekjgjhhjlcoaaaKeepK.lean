import Derived.Test.YtekjgjhhjlcoaaaKeepJ
namespace Tg

/-- One who asked and does not wait is known at once. -/
theorem Knows.snoc {s : List Sn} {l : List Tk} (h : Knows s l) (t : Tk) (hs : t.state ≠ 1) : Knows (s ++ [⟨t.weight, t.state, 0⟩]) (l ++ [t]) := by
  refine ⟨by simp [h.len], fun i => ?_, fun i => ?_, fun k hk => ?_⟩
  · rw [snAt_snoc, tkAt_snoc, h.len]; split
    · rfl
    · exact h.wt i
  · rw [snAt_snoc, tkAt_snoc, h.len]; split
    · rfl
    · exact h.st i
  · rw [tkAt_snoc] at hk ⊢
    rw [snAt_snoc, h.len]
    split
    · rename_i e; rw [if_pos e] at hk; exact absurd hk hs
    · rename_i e; rw [if_neg e] at hk; exact h.ps k hk

/-- Asking without waiting changes nothing else. -/
theorem asked_zero (g : Gt) (h : Quiet g.room g.pass g.all) (weight band : Int) : asked g weight band 0 = { g with all := g.all ++ [ticket g weight band 0] } ∧ (ticket g weight band 0).state = (if turn g.pass g.all = 0 ∧ held g.all + weight ≤ g.room then 2 else 3) := by
  have hs : (ticket g weight band 0).state = (if turn g.pass g.all = 0 ∧ held g.all + weight ≤ g.room then 2 else 3) := by simp [ticket]
  refine ⟨?_, hs⟩
  unfold asked
  congr 1
  apply Quiet.stays
  by_cases hc : turn g.pass g.all = 0 ∧ held g.all + weight ≤ g.room
  · exact Quiet.hold hc.1 (by rw [hs, if_pos hc]; omega)
  · exact h.snoc (by rw [hs, if_neg hc]; omega) (by rw [hs, if_neg hc]; omega)
end Tg
namespace Go.Proofs.Ytekjgjhhjlcoaaa
open Go.RowKit Go.Conc

theorem row_tch {w w' : World} {T : Nat → Prop} {v : Value} {l : List Int} (h : w.ownsRow 0 3 1 v l.length (ivs l)) (ht : Tch T w w') (hn : ∀ k, v.ownBlock = some k → ¬ T k) : w'.ownsRow 0 3 1 v l.length (ivs l) :=
  ownsRow_keep h fun k hk => ht.block k (h.lt k hk).2 (hn k hk)

theorem Keeps.ask0 {N i : Nat} {w0 w w' : World} {tb gb : Nat} {p : Int} {g : Tg.Gt} {S S' : Nat → Prop} {lv lv' : Value} {s : List Tg.Sn} (h : Keeps N w0 w tb gb p i g S lv s) {t : Tg.Tk} (hs : t.state ≠ 1) (k : KL N w0 w' tb gb { g with all := g.all ++ [t] } S' g.room lv' (s ++ [⟨t.weight, t.state, 0⟩])) (hz : w.heap.size ≤ w'.heap.size) :
    Keeps N w0 w' tb gb p (i + 1) { g with all := g.all ++ [t] } S' lv' (s ++ [⟨t.weight, t.state, 0⟩]) :=
  ⟨k, h.kn.snoc t hs, by have := h.len; simp; omega, by have := h.time; show g.time ≤ _; omega, h.pass, by have := h.size; omega⟩

theorem Keeps.asked0 {N i : Nat} {w0 w w' : World} {tb gb : Nat} {p : Int} {g : Tg.Gt} {S S' : Nat → Prop} {lv lv' : Value} {s : List Tg.Sn} (h : Keeps N w0 w tb gb p i g S lv s) {st : Int} (e : (Tg.ticket g 1 0 0).state = st) (h1 : st ≠ 1) (k : KL N w0 w' tb gb { g with all := g.all ++ [Tg.ticket g 1 0 0] } S' g.room lv' (s ++ [⟨1, st, 0⟩])) (hz : w.heap.size ≤ w'.heap.size) :
    Keeps N w0 w' tb gb p (i + 1) { g with all := g.all ++ [Tg.ticket g 1 0 0] } S' lv' (s ++ [⟨1, st, 0⟩]) := by
  subst e
  exact h.ask0 (t := Tg.ticket g 1 0 0) h1 k hz

attribute [local go_sem] alloc_drewN setCell_drewN

set_option maxRecDepth 20000 in
set_option maxHeartbeats 4000000 in
theorem awake_law (room pass : Int) (hr : I64 room) (hp : I64 pass) (sv : Value) (ls : List (Int × Int × Int × Int)) (w : World) (A : Acts w w.heap.size sv ls) :
    Calls Try.prog 8 #[.int .i64 room, .int .i64 pass, sv] w fun e w' => e = .returned (.bool true) ∧ Below w.heap.size w w' := by
  have P1 := kpick_any room 30 (by omega) (by omega) hr.1 hr.2
  have P2 := kpick_any pass 21 (by omega) (by omega) hp.1 hp.2
  have l1 := pk_lt room 30 (by omega)
  have l2 := pk_lt pass 21 (by omega)
  have BG := begun_any w.heap.size w w (Nat.le_refl _) (Below.refl _ _) (pk room 30) (pk pass 21) (by omega) (by omega)
  obtain ⟨ao, cap, rfl, hn, hcells⟩ := A.form
  generalize pk room 30 = ro at P1 l1 BG
  generalize pk pass 21 = pa at P2 l2 BG
  clear A hr hp
  obtain ⟨i0, hi0, hz0, hz1, hz2⟩ := info_parts Try.infoSeen
  have HI : Hid (Try.prog.info? 39 = some i0 ∧ i0.zero = some (.agg #[.int .i64 0, .int .i64 0, .int .i64 0]) ∧ i0.size = 3 ∧ i0.bytes = 24) := hid ⟨hi0, hz0, hz1, hz2⟩
  clear hi0 hz0 hz1 hz2
  go_enter Try.func8, Try.ntmps8
  go_wp2_with (first | (go_at_call_of 14 (Value.int .i64 30); refine (P1 _).mono ?_; rintro e w' ⟨rfl, rfl⟩) | (go_at_call_of 14 (Value.int .i64 21); refine (P2 _).mono ?_; rintro e w' ⟨rfl, rfl⟩) | (go_at_call 13; refine BG.mono ?_; rintro e w1 ⟨tb, gb, S1, rfl, K1, hz1⟩) | (go_at_call 15; refine (known_any _).mono ?_; rintro e w2 ⟨rfl, T2⟩) | fail)
  have X0 := (Keeps.fresh K1 hz1).grow T2
  clear K1 T2 BG P1 P2
  go_loopg [8, 9] ls.length (fun r okv iv wr => ∃ i g S lv s, i + r = ls.length ∧ okv = .bool true ∧ iv = .int .i64 (i : Int) ∧ Keeps w'.heap.size w' wr tb gb (pa : Int) (2 * i) g S lv s)
  case atStart => exact ⟨0, _, _, _, _, by omega, rfl, rfl, X0⟩
  case round =>
    obtain ⟨i, g, S, lv, s, hi, rfl, rfl, X⟩ := hrel
    clear X0
    by_cases hlt : i < ls.length
    · obtain ⟨ab, off, hab, rfl, q0, q1, q2, q3, b0, b1, b2, b3⟩ := hcells i hlt
      rw [← below_cellK X.kl.bel hab] at q0 q1 q2 q3
      have hlen := X.len
      have htim := X.time
      have DO := does_any X.kl X.size X.kn ls[i].1 ls[i].2.1 ls[i].2.2.1 ls[i].2.2.2 b0 b1 b2 b3 (by omega) (by omega)
      have e1 := wrapId ((i : Int) + 1) (by omega) (by omega)
      unfold actV at DO
      clear hcells
      go_wp2_with (first | (go_at_call 16; refine DO.mono ?_; rintro e w1 ⟨rfl, g1, S1, lv1, s1, D1⟩) | fail)
      have LO := klooks_any D1.kl (by have := D1.size; have := X.size; omega) D1.turned (by have := D1.len; omega)
      go_wp2_with (first | (go_at_call 17; refine LO.mono ?_; rintro e w2 ⟨rfl, s2, K2, kn2, hz2⟩; have t0 := K2.c0) | fail)
      have Y := X.next D1 K2 kn2 hz2
      have hlen2 := Y.len
      have htim2 := Y.time
      have QU := ga_queue Y.kl.ga (by omega)
      clear DO LO D1 K2 kn2 X q0 q1 q2 q3 b0 b1 b2 b3
      refine QU.mono ?_
      rintro e w3 ⟨qv, rfl, qrow, _, qap, G3, T3⟩
      have Y3 := Y.same G3 T3
      have hql := queue_le Y3.kl.ga.ok
      have hsl : s2.length ≤ 8796093022208 := by rw [Y3.kn.len]; omega
      have WH := whole_any Y3.kl qv _ (Ints.of_row qrow) (Y3.kn.wh Y3.kl.ga.ok.ok) (by omega) (by omega)
      obtain ⟨qo, qcap, rfl⟩ := row_form qrow
      clear QU Y G3 T3 t0
      go_wp2_with (first | (go_at_call 19; refine WH.mono ?_; rintro e w4 ⟨rfl, n4, rfl⟩; have t0 := (Y3.drewN n4).kl.c0) | fail)
      have HA := ga_held (Y3.drewN n4).kl.ga
      refine HA.mono ?_
      rintro e w5 ⟨rfl, G5, T5⟩
      have Y5 := (Y3.drewN n4).same G5 T5
      have qrow5 := row_tch (w := w3.drewN n4) (ownsRow_keep qrow fun _ _ => rfl) T5 qap
      have Q5 := Ints.of_row qrow5
      clear WH HA qrow Y3 G5 T5 t0
      have t0 := Y5.kl.c0
      have t1 := Y5.kl.c1
      have t2 := Y5.kl.c2
      have hz := Tg.asked_zero g1 Y5.kl.ga.quiet 1 0
      have hask : Tg.ask g1 1 0 0 = ({ g1 with all := g1.all ++ [Tg.ticket g1 1 0 0] }, (g1.all.length : Int) + 1, (Tg.ticket g1 1 0 0).state, 0) := by
        unfold Tg.ask
        rw [if_pos (by unfold Tg.askErr; simp), hz.1]
        simp
      have hst := hz.2
      have hq0 := Tg.queueL_pos g1.pass g1.all
      have hb := Tg.held_bounds _ _ Y5.kl.ga.ok.ok
      have hsl2 := Y5.kn.len
      have hsl3 : s2.length ≤ 2 * i + 1 := by omega
      have FST := fun x r (e : Tg.queueL g1.pass g1.all = x :: r) => Y5.kl.ga.quiet.first x r e
      obtain ⟨lo, lcap, elv, _, hlo5⟩ := Y5.kl.form
      subst elv
      obtain ⟨hd, ehd⟩ : ∃ x, Tg.held g1.all = x := ⟨_, rfl⟩
      rw [ehd] at hst hb
      simp only [ehd] at FST
      rw [ehd]
      obtain ⟨qo5, qcap5, eq5, _, hqo⟩ := Q5.form
      simp only [Value.slice.injEq] at eq5
      obtain ⟨rfl, _, rfl⟩ := eq5
      obtain ⟨qn, eqn⟩ : ∃ x, (Tg.queueL g1.pass g1.all).length = x := ⟨_, rfl⟩
      by_cases hq : (Tg.queueL g1.pass g1.all).length = 0
      · have ht := hq0.2 hq
        rw [hq] at eqn
        subst eqn
        rw [hq]
        by_cases hrm : hd < g1.room
        · have est : (Tg.ticket g1 1 0 0).state = 2 := by rw [hst, if_pos ⟨ht, by omega⟩]
          have AK := ga_ask Y5.kl.ga 1 0 0 (by omega) (by omega)
          rw [hask, est, ← hsl2] at AK
          have FIN := fun S6 lv' w8 (k : KL w'.heap.size w' w8 tb gb { g1 with all := g1.all ++ [Tg.ticket g1 1 0 0] } S6 g1.room lv' (s2 ++ [⟨1, 2, 0⟩])) hz => Y5.asked0 est (by omega) k hz
          have d1 : decide (hd < g1.room) = true := by simpa using hrm
          clear hask hst hq0 est hz FST hqo hlo5 hsl2 ehd
          go_wp2_with fail
          refine AK.mono ?_
          rintro e w6 ⟨rfl, G6⟩
          obtain ⟨S6, K6, hz6⟩ := Y5.kl.gs (by have := Y5.size; omega) G6
          have u2 := K6.c2
          have u1 := K6.c1
          have fu := K6.fr 2
          have K7 := K6.grow (by have := Y5.size; omega) (w' := w6.alloc (.cells #[.int .i64 1, .int .i64 2, .int .i64 0] 39)) ((Tch.refl _ _).alloc _)
          have row7 := K7.row
          clear AK G6
          go_wp2_with (first | (at_builtin; refine wpList_append_own3 rfl (.tmp 98) (.tmp 101) 35 rfl 39 i0 _ 3 24 Try.underlying35 HI.out.1 HI.out.2.1 HI.out.2.2.1 HI.out.2.2.2 rfl (by decide) (.slice lo s2.length lcap) s2.length (snCells s2) rfl ?c1 ⟨w6.heap.size, 0, none⟩ 1 1 (snVals ⟨1, 2, 0⟩) rfl rfl ?c2 ?c3 ?c4 ?c5 ?_) | fail)
          case c1 => exact row7
          case c2 =>
            intro j u hj
            rw [Addr.add_lit, World.cell?_alloc_at _ _ _ _ (by simp)]
            simpa [snVals] using hj
          case c3 => intro u hu; simp [snVals] at hu; rcases hu with rfl | rfl | rfl <;> rfl
          case c4 => unfold maxLen; omega
          case c5 => omega
          intro lv' w8 hown hgrow hmv
          have hgs := hgrow.size
          simp at hgs
          obtain ⟨q1', q2', q3'⟩ := K7.app (by have := Y5.size; simp; omega) ⟨1, 2, 0⟩ hown hgrow hmv
          have Z := FIN S6 lv' _ q3' (by rw [size_set]; omega)
          obtain ⟨ab8, cp8, rfl⟩ := ownsRow_form hown (by omega)
          have r1 := q3'.c1
          clear K6 K7 row7 hown hgrow hmv
          go_wp2
          go_roundg (gk - 1)
          case rel => exact ⟨i + 1, _, S6, _, _, by omega, rfl, by simp, by rw [show 2 * (i + 1) = 2 * i + 1 + 1 by omega]; exact Z⟩
          case measure => omega
        · have est : (Tg.ticket g1 1 0 0).state = 3 := by rw [hst, if_neg (by rintro ⟨_, y⟩; omega)]
          have AK := ga_ask Y5.kl.ga 1 0 0 (by omega) (by omega)
          rw [hask, est, ← hsl2] at AK
          have FIN := fun S6 lv' w8 (k : KL w'.heap.size w' w8 tb gb { g1 with all := g1.all ++ [Tg.ticket g1 1 0 0] } S6 g1.room lv' (s2 ++ [⟨1, 3, 0⟩])) hz => Y5.asked0 est (by omega) k hz
          have d1 : decide (hd < g1.room) = false := by simpa using hrm
          clear hask hst hq0 est hz FST hqo hlo5 hsl2 ehd
          go_wp2_with fail
          refine AK.mono ?_
          rintro e w6 ⟨rfl, G6⟩
          obtain ⟨S6, K6, hz6⟩ := Y5.kl.gs (by have := Y5.size; omega) G6
          have u2 := K6.c2
          have u1 := K6.c1
          have fu := K6.fr 2
          have K7 := K6.grow (by have := Y5.size; omega) (w' := w6.alloc (.cells #[.int .i64 1, .int .i64 3, .int .i64 0] 39)) ((Tch.refl _ _).alloc _)
          have row7 := K7.row
          clear AK G6
          go_wp2_with (first | (at_builtin; refine wpList_append_own3 rfl (.tmp 98) (.tmp 101) 35 rfl 39 i0 _ 3 24 Try.underlying35 HI.out.1 HI.out.2.1 HI.out.2.2.1 HI.out.2.2.2 rfl (by decide) (.slice lo s2.length lcap) s2.length (snCells s2) rfl ?c1 ⟨w6.heap.size, 0, none⟩ 1 1 (snVals ⟨1, 3, 0⟩) rfl rfl ?c2 ?c3 ?c4 ?c5 ?_) | fail)
          case c1 => exact row7
          case c2 =>
            intro j u hj
            rw [Addr.add_lit, World.cell?_alloc_at _ _ _ _ (by simp)]
            simpa [snVals] using hj
          case c3 => intro u hu; simp [snVals] at hu; rcases hu with rfl | rfl | rfl <;> rfl
          case c4 => unfold maxLen; omega
          case c5 => omega
          intro lv' w8 hown hgrow hmv
          have hgs := hgrow.size
          simp at hgs
          obtain ⟨q1', q2', q3'⟩ := K7.app (by have := Y5.size; simp; omega) ⟨1, 3, 0⟩ hown hgrow hmv
          have Z := FIN S6 lv' _ q3' (by rw [size_set]; omega)
          obtain ⟨ab8, cp8, rfl⟩ := ownsRow_form hown (by omega)
          have r1 := q3'.c1
          clear K6 K7 row7 hown hgrow hmv
          go_wp2
          go_roundg (gk - 1)
          case rel => exact ⟨i + 1, _, S6, _, _, by omega, rfl, by simp, by rw [show 2 * (i + 1) = 2 * i + 1 + 1 by omega]; exact Z⟩
          case measure => omega
      · have hpos : 0 < (Tg.queueL g1.pass g1.all).length := by omega
        obtain ⟨qx, qr, eqq⟩ : ∃ x r, Tg.queueL g1.pass g1.all = x :: r := by
          cases h : Tg.queueL g1.pass g1.all with
          | nil => rw [h] at hpos; simp at hpos
          | cons x r => exact ⟨x, r, rfl⟩
        obtain ⟨k, hk, ekx, hfit⟩ := FST qx qr eqq
        obtain ⟨qb, rfl, qc⟩ := hqo 0 hpos
        have hks : k < s2.length := by omega
        have qc' : w5.cell? ⟨qb, 0, none⟩ = some (.int .i64 ((k : Int) + 1)) := by
          rw [qc]; simp only [eqq, List.getElem_cons_zero, ekx]
        obtain ⟨lb, rfl⟩ := hlo5 k hks
        obtain ⟨v0, _, _⟩ := Y5.kl.val rfl k hks _ rfl
        have hwt : (Tg.snAt s2 k).weight = g1.all[k].weight := by have := Y5.kn.wt k; rwa [Tg.tkAt_lt hk] at this
        rw [hwt] at v0
        have hkw := (Y5.kl.ga.ok.ok _ (List.getElem_mem hk))
        have hk1 := hkw.w1
        have hk2 := hkw.w2
        obtain ⟨wk, ewk⟩ : ∃ x, g1.all[k].weight = x := ⟨_, rfl⟩
        rw [ewk] at v0 hfit hk1 hk2
        have hne : ¬ Tg.turn g1.pass g1.all = 0 := fun x => hq (hq0.1 x)
        have est : (Tg.ticket g1 1 0 0).state = 3 := by rw [hst, if_neg (fun y => hne y.1)]
        have AK := fun n => ga_ask (Y5.drewN n).kl.ga 1 0 0 (by omega) (by omega)
        simp only [hask, est, ← hsl2] at AK
        have FIN0 := fun n => fun S6 lv' w8 (k : KL w'.heap.size w' w8 tb gb { g1 with all := g1.all ++ [Tg.ticket g1 1 0 0] } S6 g1.room lv' (s2 ++ [⟨1, 3, 0⟩])) hz => (Y5.drewN n).asked0 est (by omega) k hz
        have d1 : decide (g1.room < hd + wk) = true := by simpa using hfit
        have d2 : decide ((0 : Int) < ((Tg.queueL g1.pass g1.all).length : Int)) = true := decide_eq_true (by omega)
        have d3 : (((Tg.queueL g1.pass g1.all).length : Int) == 0) = false := by rw [beq_eq_false_iff_ne]; omega
        have e4 : IntKind.i64.wrap ((k : Int) + 1 - 1) = (k : Int) := by rw [wrapId _ (by omega) (by omega)]; omega
        have e5 := wrapId (hd + wk) (by omega) (by omega)
        rw [eqn] at d2 d3 hpos
        rw [eqn]
        clear hask hst hq0 est hz FST hqo hlo5 hsl2 ehd hwt hkw ekx qc hfit ewk hne hq eqq
        go_wp2
        go_quiet (fail)
        have FIN := FIN0 nq
        have AK := AK nq
        have Y6 := Y5.drewN nq
        go_wp2_with fail
        refine AK.mono ?_
        rintro e w6 ⟨rfl, G6⟩
        obtain ⟨S6, K6, hz6⟩ := Y6.kl.gs (by have := Y6.size; omega) G6
        have u2 := K6.c2
        have u1 := K6.c1
        have fu := K6.fr 2
        have K7 := K6.grow (by have := Y6.size; omega) (w' := w6.alloc (.cells #[.int .i64 1, .int .i64 3, .int .i64 0] 39)) ((Tch.refl _ _).alloc _)
        have row7 := K7.row
        clear AK G6
        go_wp2_with (first | (at_builtin; refine wpList_append_own3 rfl (.tmp 98) (.tmp 101) 35 rfl 39 i0 _ 3 24 Try.underlying35 HI.out.1 HI.out.2.1 HI.out.2.2.1 HI.out.2.2.2 rfl (by decide) (.slice (some ⟨lb, 0, none⟩) s2.length lcap) s2.length (snCells s2) rfl ?c1 ⟨w6.heap.size, 0, none⟩ 1 1 (snVals ⟨1, 3, 0⟩) rfl rfl ?c2 ?c3 ?c4 ?c5 ?_) | fail)
        case c1 => exact row7
        case c2 =>
          intro j u hj
          rw [Addr.add_lit, World.cell?_alloc_at _ _ _ _ (by simp)]
          simpa [snVals] using hj
        case c3 => intro u hu; simp [snVals] at hu; rcases hu with rfl | rfl | rfl <;> rfl
        case c4 => unfold maxLen; omega
        case c5 => omega
        intro lv' w8 hown hgrow hmv
        have hgs := hgrow.size
        simp at hgs
        obtain ⟨q1', q2', q3'⟩ := K7.app (by have := Y6.size; simp; omega) ⟨1, 3, 0⟩ hown hgrow hmv
        have Z := FIN S6 lv' _ q3' (by rw [size_set]; omega)
        obtain ⟨ab8, cp8, rfl⟩ := ownsRow_form hown (by omega)
        have r1 := q3'.c1
        clear K6 K7 row7 hown hgrow hmv
        go_wp2
        go_roundg (gk - 1)
        case rel => exact ⟨i + 1, _, S6, _, _, by omega, rfl, by simp, by rw [show 2 * (i + 1) = 2 * i + 1 + 1 by omega]; exact Z⟩
        case measure => omega
    · go_wp2
      go_ret
      exact ⟨rfl, X.kl.bel⟩

end Go.Proofs.Ytekjgjhhjlcoaaa
