import Derived.Test.YtekjgjhhjlcoaaaKeepI
namespace Go.Proofs.Ytekjgjhhjlcoaaa
open Go.RowKit Go.Conc

theorem pk_one : pk 1 3 = 1 := by decide
theorem i64_one : I64 1 := by unfold I64; omega

theorem Keeps.same {N i : Nat} {w0 w w' : World} {tb gb : Nat} {p : Int} {g : Tg.Gt} {S : Nat → Prop} {lv : Value} {s : List Tg.Sn} (h : Keeps N w0 w tb gb p i g S lv s) (hg : GA w' gb g S) (ht : Tch S w w') : Keeps N w0 w' tb gb p i g S lv s :=
  ⟨h.kl.same h.size hg ht, h.kn, h.len, h.time, h.pass, by have := h.size; have := ht.size; omega⟩
theorem Keeps.drewN {N i : Nat} {w0 w : World} {tb gb : Nat} {p : Int} {g : Tg.Gt} {S : Nat → Prop} {lv : Value} {s : List Tg.Sn} (h : Keeps N w0 w tb gb p i g S lv s) (n : Nat) : Keeps N w0 (w.drewN n) tb gb p i g S lv s :=
  ⟨h.kl.drewN n, h.kn, h.len, h.time, h.pass, h.size⟩

theorem queue_le {g : Tg.Gt} (ok : Tg.GtOk g) : (Tg.queueL g.pass g.all).length ≤ g.all.length := by
  rw [Tg.queueL_length _ _ ok.ok, Tg.waitN_countP]
  exact List.countP_le_length

attribute [local go_sem] alloc_drewN setCell_drewN

set_option maxRecDepth 20000 in
set_option maxHeartbeats 4000000 in
theorem row_law (room pass : Int) (hr : I64 room) (hp : I64 pass) (sv : Value) (ls : List (Int × Int × Int × Int)) (w : World) (A : Acts w w.heap.size sv ls) :
    Calls Try.prog 9 #[.int .i64 room, .int .i64 pass, sv] w fun e w' => e = .returned (.bool true) ∧ Below w.heap.size w w' := by
  have P1 := kpick_any room 30 (by omega) (by omega) hr.1 hr.2
  have P2 := kpick_any pass 21 (by omega) (by omega) hp.1 hp.2
  have l1 := pk_lt room 30 (by omega)
  have l2 := pk_lt pass 21 (by omega)
  have BG := begun_any w.heap.size w w (Nat.le_refl _) (Below.refl _ _) (pk room 30) (pk pass 21) (by omega) (by omega)
  obtain ⟨ao, cap, rfl, hn, hcells⟩ := A.form
  generalize pk room 30 = ro at P1 l1 BG
  generalize pk pass 21 = pa at P2 l2 BG
  clear A hr hp
  go_enter Try.func9, Try.ntmps9
  go_wp2_with (first | (go_at_call_of 14 (Value.int .i64 30); refine (P1 _).mono ?_; rintro e w' ⟨rfl, rfl⟩) | (go_at_call_of 14 (Value.int .i64 21); refine (P2 _).mono ?_; rintro e w' ⟨rfl, rfl⟩) | (go_at_call 13; refine BG.mono ?_; rintro e w1 ⟨tb, gb, S1, rfl, K1, hz1⟩) | (go_at_call 15; refine (known_any _).mono ?_; rintro e w2 ⟨rfl, T2⟩) | fail)
  have X0 := (Keeps.fresh K1 hz1).grow T2
  clear K1 T2 BG P1 P2
  go_loopg [8, 9] ls.length (fun r okv iv wr => ∃ i g S lv s, i + r = ls.length ∧ okv = .bool true ∧ iv = .int .i64 (i : Int) ∧ Keeps w'.heap.size w' wr tb gb (pa : Int) i g S lv s ∧ Tg.OneRow g.all)
  case atStart => exact ⟨0, _, _, _, _, by omega, rfl, rfl, X0, ⟨fun t ht => by simp [Tg.fresh] at ht, fun t ht => by simp [Tg.fresh] at ht⟩⟩
  case round =>
    obtain ⟨i, g, S, lv, s, hi, rfl, rfl, X, OR⟩ := hrel
    clear X0
    by_cases hlt : i < ls.length
    · obtain ⟨ab, off, hab, rfl, q0, q1, q2, q3, b0, b1, b2, b3⟩ := hcells i hlt
      rw [← below_cellK X.kl.bel hab] at q0 q1 q2 q3
      have habs : ab < wr.heap.size := by have := X.size; omega
      have hlen := X.len
      have htim := X.time
      obtain ⟨x, ex⟩ : ∃ x, ls[i].1 = x := ⟨_, rfl⟩
      obtain ⟨a, ea⟩ : ∃ x, ls[i].2.1 = x := ⟨_, rfl⟩
      obtain ⟨b, eb⟩ : ∃ x, ls[i].2.2.1 = x := ⟨_, rfl⟩
      obtain ⟨c, ec⟩ : ∃ x, ls[i].2.2.2 = x := ⟨_, rfl⟩
      rw [ex] at q0 b0
      rw [ea] at q1 b1
      rw [eb] at q2 b2
      rw [ec] at q3 b3
      clear ex ea eb ec
      have PX := kpick_any x 8 (by omega) (by omega) b0.1 b0.2
      have e1 := wrapId ((i : Int) + 1) (by omega) (by omega)
      have DO := fun w1 (X1 : Keeps w'.heap.size w' w1 tb gb (pa : Int) i g S lv s) b' (hb' : I64 b') => does_any X1.kl X1.size X1.kn x a b' c b0 b1 hb' b3 (by omega) (by omega)
      unfold actV at DO
      clear hcells
      obtain ⟨r8, er8⟩ : ∃ r, pk x 8 = r := ⟨_, rfl⟩
      rw [er8] at PX
      have ER := hid er8
      clear er8
      by_cases h4 : r8 < 4
      · have h4' : decide ((r8 : Int) < 4) = true := by simp; omega
        have X1 := X.grow (w' := wr.alloc (.cells #[.int .i64 x, .int .i64 a, .int .i64 1, .int .i64 c] 32)) ((Tch.refl _ _).alloc _)
        go_wp2_with (first | (go_at_call 14; refine (PX _).mono ?_; rintro e w' ⟨rfl, rfl⟩) | fail)
        refine (DO _ X1 1 i64_one).mono ?_
        rintro e w1 ⟨rfl, g1, S1', lv1, s1, D1⟩
        have OR1 : Tg.OneRow g1.all := D1.row (fun _ => pk_one) OR
        have LO := klooks_any D1.kl (by have := D1.size; have := X1.size; omega) D1.turned (by have := D1.len; omega)
        clear DO PX q0 q1 q2 q3 b0 b1 b2 b3
        go_wp2_with (first | (go_at_call 17; refine LO.mono ?_; rintro e w2 ⟨rfl, s2, K2, kn2, hz2⟩; have t0 := K2.c0) | fail)
        have Y := X1.next D1 K2 kn2 hz2
        have hlen2 := Y.len
        have QU := ga_queue Y.kl.ga (by omega)
        clear LO D1 K2 kn2 X X1
        refine QU.mono ?_
        rintro e w3 ⟨qv, rfl, qrow, _, qap, G3, T3⟩
        have Y3 := Y.same G3 T3
        have hql := queue_le Y3.kl.ga.ok
        have hsl : s2.length ≤ 8796093022208 := by rw [Y3.kn.len]; omega
        have WH := whole_any Y3.kl qv _ (Ints.of_row qrow) (Y3.kn.wh Y3.kl.ga.ok.ok) (by omega) (by omega)
        have QI := (Ints.of_row qrow).form
        have SO := OR1.sorted g1.pass Y3.kl.ga.ok.p1
        obtain ⟨q, eq⟩ : ∃ q, Tg.queueL g1.pass g1.all = q := ⟨_, rfl⟩
        rw [eq] at QI SO hql
        obtain ⟨qo, qcap, rfl, _, hqo⟩ := QI
        clear QU Y G3 T3 t0 eq qrow qap
        go_wp2_with (first | (go_at_call 19; refine WH.mono ?_; rintro e w4 ⟨rfl, n4, rfl⟩) | fail)
        clear WH
        go_loopg [8, 14] q.length (fun r okv kv w5 => ∃ k, k + r = q.length ∧ okv = .bool true ∧ kv = .int .i64 (k : Int) ∧ ∃ n, w5 = w3.drewN n)
        case atStart => exact ⟨0, by omega, rfl, rfl, _, rfl⟩
        case round =>
          obtain ⟨k, hk, rfl, rfl, n5, rfl⟩ := hrel
          by_cases hkl : k < q.length
          · by_cases hk0 : k = 0
            · subst hk0
              obtain ⟨qb, rfl, qc⟩ := hqo 0 hkl
              go_wp2
              go_quiet (fail)
              go_wp2
              go_roundg (gk - 1)
              case rel => exact ⟨1, by omega, rfl, by simp, _, rfl⟩
              case measure => omega
            · obtain ⟨m, hm⟩ : ∃ m, m + 1 = k := ⟨k - 1, by omega⟩
              obtain ⟨qb, rfl, qc⟩ := hqo k hkl
              obtain ⟨qb2, eqb, qc2⟩ := hqo m (by omega)
              simp at eqb
              subst eqb
              have hso := List.pairwise_iff_getElem.1 SO m k (by omega) hkl (by omega)
              obtain ⟨y, ey⟩ : ∃ y, q[k] = y := ⟨_, rfl⟩
              obtain ⟨z, ez⟩ : ∃ y, q[m]'(by omega) = y := ⟨_, rfl⟩
              rw [ey] at qc hso
              rw [ez] at qc2 hso
              have d1 : decide (z < y) = true := by simpa using hso
              have d2 : ((k : Int) == 0) = false := by simp; omega
              have e4 : IntKind.i64.wrap ((k : Int) - 1) = (m : Int) := by rw [wrapId _ (by omega) (by omega)]; omega
              have e5 := wrapId ((k : Int) + 1) (by omega) (by omega)
              have hml : m < q.length := by omega
              clear ey ez hso hm hk0
              go_wp2
              go_quiet (fail)
              go_wp2
              go_roundg (gk - 1)
              case rel => exact ⟨k + 1, by omega, rfl, by simp, _, rfl⟩
              case measure => omega
          · have t2 := Y3.kl.c2
            obtain ⟨lo, lcap, elv, _, hlo⟩ := Y3.kl.form
            rw [elv] at t2
            clear hqo SO
            go_wp2
            go_loopg [8, 15] s2.length (fun r okv kv w5 => ∃ k, k + r = s2.length ∧ okv = .bool true ∧ kv = .int .i64 (k : Int) ∧ ∃ n, w5 = w3.drewN n)
            case atStart => exact ⟨0, by omega, rfl, rfl, _, rfl⟩
            case round =>
              obtain ⟨j, hj, rfl, rfl, n6, rfl⟩ := hrel
              by_cases hjl : j < s2.length
              · obtain ⟨lb, rfl⟩ := hlo j hjl
                obtain ⟨_, v1, v2⟩ := Y3.kl.val elv j hjl _ rfl
                have e6 := wrapId ((j : Int) + 1) (by omega) (by omega)
                have hb : (Tg.snAt s2 j).state = 1 → (Tg.snAt s2 j).passed = 0 := fun h1 => by
                  have hjg : j < g1.all.length := by rw [← Y3.kn.len]; exact hjl
                  have h2 : (Tg.tkAt g1.all j).state = 1 := by rw [← Y3.kn.st j]; exact h1
                  rw [Y3.kn.ps j h2]
                  rw [Tg.tkAt_lt hjg] at h2 ⊢
                  exact OR1.count _ (List.getElem_mem hjg) h2
                obtain ⟨st, est⟩ : ∃ x, (Tg.snAt s2 j).state = x := ⟨_, rfl⟩
                obtain ⟨ps, eps⟩ : ∃ x, (Tg.snAt s2 j).passed = x := ⟨_, rfl⟩
                rw [est] at v1 hb
                rw [eps] at v2 hb
                clear est eps
                by_cases h1 : st = 1
                · subst h1
                  obtain rfl := hb rfl
                  clear hb
                  go_wp2
                  go_roundg (gk - 1)
                  case rel => exact ⟨j + 1, by omega, rfl, by simp, _, rfl⟩
                  case measure => omega
                · have h1' : (st != 1) = true := by simpa using h1
                  clear hb h1
                  go_wp2
                  go_roundg (gk - 1)
                  case rel => exact ⟨j + 1, by omega, rfl, by simp, _, rfl⟩
                  case measure => omega
              · go_wp2
                go_roundg (ls.length - (i + 1))
                case rel => exact ⟨i + 1, g1, S1', lv1, s2, by omega, rfl, by simp, Y3.drewN _, OR1⟩
                case measure => omega
      · have h4' : decide ((r8 : Int) < 4) = false := by simp; omega
        have X1 := X.grow (w' := wr.alloc (.cells #[.int .i64 x, .int .i64 a, .int .i64 b, .int .i64 c] 32)) ((Tch.refl _ _).alloc _)
        go_wp2_with (first | (go_at_call 14; refine (PX _).mono ?_; rintro e w' ⟨rfl, rfl⟩) | fail)
        refine (DO _ X1 b b2).mono ?_
        rintro e w1 ⟨rfl, g1, S1', lv1, s1, D1⟩
        have OR1 : Tg.OneRow g1.all := D1.row (fun h => absurd (by rw [ER.out] at h; exact h) h4) OR
        have LO := klooks_any D1.kl (by have := D1.size; have := X1.size; omega) D1.turned (by have := D1.len; omega)
        clear DO PX q0 q1 q2 q3 b0 b1 b2 b3
        go_wp2_with (first | (go_at_call 17; refine LO.mono ?_; rintro e w2 ⟨rfl, s2, K2, kn2, hz2⟩; have t0 := K2.c0) | fail)
        have Y := X1.next D1 K2 kn2 hz2
        have hlen2 := Y.len
        have QU := ga_queue Y.kl.ga (by omega)
        clear LO D1 K2 kn2 X X1
        refine QU.mono ?_
        rintro e w3 ⟨qv, rfl, qrow, _, qap, G3, T3⟩
        have Y3 := Y.same G3 T3
        have hql := queue_le Y3.kl.ga.ok
        have hsl : s2.length ≤ 8796093022208 := by rw [Y3.kn.len]; omega
        have WH := whole_any Y3.kl qv _ (Ints.of_row qrow) (Y3.kn.wh Y3.kl.ga.ok.ok) (by omega) (by omega)
        have QI := (Ints.of_row qrow).form
        have SO := OR1.sorted g1.pass Y3.kl.ga.ok.p1
        obtain ⟨q, eq⟩ : ∃ q, Tg.queueL g1.pass g1.all = q := ⟨_, rfl⟩
        rw [eq] at QI SO hql
        obtain ⟨qo, qcap, rfl, _, hqo⟩ := QI
        clear QU Y G3 T3 t0 eq qrow qap
        go_wp2_with (first | (go_at_call 19; refine WH.mono ?_; rintro e w4 ⟨rfl, n4, rfl⟩) | fail)
        clear WH
        go_loopg [8, 14] q.length (fun r okv kv w5 => ∃ k, k + r = q.length ∧ okv = .bool true ∧ kv = .int .i64 (k : Int) ∧ ∃ n, w5 = w3.drewN n)
        case atStart => exact ⟨0, by omega, rfl, rfl, _, rfl⟩
        case round =>
          obtain ⟨k, hk, rfl, rfl, n5, rfl⟩ := hrel
          by_cases hkl : k < q.length
          · by_cases hk0 : k = 0
            · subst hk0
              obtain ⟨qb, rfl, qc⟩ := hqo 0 hkl
              go_wp2
              go_quiet (fail)
              go_wp2
              go_roundg (gk - 1)
              case rel => exact ⟨1, by omega, rfl, by simp, _, rfl⟩
              case measure => omega
            · obtain ⟨m, hm⟩ : ∃ m, m + 1 = k := ⟨k - 1, by omega⟩
              obtain ⟨qb, rfl, qc⟩ := hqo k hkl
              obtain ⟨qb2, eqb, qc2⟩ := hqo m (by omega)
              simp at eqb
              subst eqb
              have hso := List.pairwise_iff_getElem.1 SO m k (by omega) hkl (by omega)
              obtain ⟨y, ey⟩ : ∃ y, q[k] = y := ⟨_, rfl⟩
              obtain ⟨z, ez⟩ : ∃ y, q[m]'(by omega) = y := ⟨_, rfl⟩
              rw [ey] at qc hso
              rw [ez] at qc2 hso
              have d1 : decide (z < y) = true := by simpa using hso
              have d2 : ((k : Int) == 0) = false := by simp; omega
              have e4 : IntKind.i64.wrap ((k : Int) - 1) = (m : Int) := by rw [wrapId _ (by omega) (by omega)]; omega
              have e5 := wrapId ((k : Int) + 1) (by omega) (by omega)
              have hml : m < q.length := by omega
              clear ey ez hso hm hk0
              go_wp2
              go_quiet (fail)
              go_wp2
              go_roundg (gk - 1)
              case rel => exact ⟨k + 1, by omega, rfl, by simp, _, rfl⟩
              case measure => omega
          · have t2 := Y3.kl.c2
            obtain ⟨lo, lcap, elv, _, hlo⟩ := Y3.kl.form
            rw [elv] at t2
            clear hqo SO
            go_wp2
            go_loopg [8, 15] s2.length (fun r okv kv w5 => ∃ k, k + r = s2.length ∧ okv = .bool true ∧ kv = .int .i64 (k : Int) ∧ ∃ n, w5 = w3.drewN n)
            case atStart => exact ⟨0, by omega, rfl, rfl, _, rfl⟩
            case round =>
              obtain ⟨j, hj, rfl, rfl, n6, rfl⟩ := hrel
              by_cases hjl : j < s2.length
              · obtain ⟨lb, rfl⟩ := hlo j hjl
                obtain ⟨_, v1, v2⟩ := Y3.kl.val elv j hjl _ rfl
                have e6 := wrapId ((j : Int) + 1) (by omega) (by omega)
                have hb : (Tg.snAt s2 j).state = 1 → (Tg.snAt s2 j).passed = 0 := fun h1 => by
                  have hjg : j < g1.all.length := by rw [← Y3.kn.len]; exact hjl
                  have h2 : (Tg.tkAt g1.all j).state = 1 := by rw [← Y3.kn.st j]; exact h1
                  rw [Y3.kn.ps j h2]
                  rw [Tg.tkAt_lt hjg] at h2 ⊢
                  exact OR1.count _ (List.getElem_mem hjg) h2
                obtain ⟨st, est⟩ : ∃ x, (Tg.snAt s2 j).state = x := ⟨_, rfl⟩
                obtain ⟨ps, eps⟩ : ∃ x, (Tg.snAt s2 j).passed = x := ⟨_, rfl⟩
                rw [est] at v1 hb
                rw [eps] at v2 hb
                clear est eps
                by_cases h1 : st = 1
                · subst h1
                  obtain rfl := hb rfl
                  clear hb
                  go_wp2
                  go_roundg (gk - 1)
                  case rel => exact ⟨j + 1, by omega, rfl, by simp, _, rfl⟩
                  case measure => omega
                · have h1' : (st != 1) = true := by simpa using h1
                  clear hb h1
                  go_wp2
                  go_roundg (gk - 1)
                  case rel => exact ⟨j + 1, by omega, rfl, by simp, _, rfl⟩
                  case measure => omega
              · go_wp2
                go_roundg (ls.length - (i + 1))
                case rel => exact ⟨i + 1, g1, S1', lv1, s2, by omega, rfl, by simp, Y3.drewN _, OR1⟩
                case measure => omega
    · go_wp2
      go_ret
      exact ⟨rfl, X.kl.bel⟩

end Go.Proofs.Ytekjgjhhjlcoaaa
