import Derived.Test.YtekjgjhhjlcoaaaKeepM
import Derived.Deep.DeepCutAuto
namespace Go.Proofs.Ytekjgjhhjlcoaaa
open Go.RowKit Go.Conc

def I64n (x : Int) : Prop := -9223372036854775808 ≤ x ∧ x ≤ 9223372036854775807

/-- The numbers as they lie in memory, from an address on, below N. -/
structure Nums (w : World) (N : Nat) (sv : Value) (ls : List Int) : Prop where
  form : ∃ ao cap, sv = .slice ao ls.length cap ∧ ls.length ≤ 17592186044416 ∧ ∀ k (hk : k < ls.length), ∃ ab off, ab < N ∧ ao = some ⟨ab, off, none⟩ ∧ w.cell? ⟨ab, off + k, none⟩ = some (.int .i64 ls[k]) ∧ I64n ls[k]

/-- What the clock's law knows. -/
structure CI (N : Nat) (w0 w : World) (tb gb : Nat) (i : Nat) (g : Tg.Gt) (S : Nat → Prop) (uv : Value) (us : List Int) : Prop where
  cl : CL N w0 w tb gb g S uv us
  ck : Tg.Ck us g
  len : us.length = i
  time : g.time ≤ i

section
variable {N i : Nat} {w0 w w' : World} {tb gb : Nat} {g : Tg.Gt} {S S' : Nat → Prop} {uv uv' : Value} {us : List Int}

theorem CI.ticked (h : CI N w0 w tb gb i g S uv us) (hg : CL N w0 w' tb gb (Tg.tick g) S' uv us) : CL N w0 w' tb gb (Tg.tick g) S' uv us ∧ Tg.Ck us (Tg.tick g) := ⟨hg, h.ck.ticks h.cl.kl.ga.ok⟩
end

set_option maxRecDepth 20000 in
set_option maxHeartbeats 4000000 in
theorem clock_law (sv : Value) (ls : List Int) (w : World) (A : Nums w w.heap.size sv ls) :
    Calls Try.prog 10 #[sv] w fun e w' => e = .returned (.bool true) ∧ Below w.heap.size w w' := by
  have BG := begun_any w.heap.size w w (Nat.le_refl _) (Below.refl _ _) 0 5 (by omega) (by omega)
  obtain ⟨ao, cap, rfl, hn, hcells⟩ := A.form
  clear A
  go_enter Try.func10, Try.ntmps10
  go_upto_region 6 with (first | (go_at_call 13; refine BG.mono ?_; rintro e w1 ⟨tb, gb, S1, rfl, K1, hz1⟩) | fail)
  go_cut [0, 3, 4, 5, 6] (fun s0 s3 s4 s5 s6 wc => s0 = .slice ao ls.length cap ∧ s3 = .pointer (some ⟨tb, 0, none⟩) ∧ s4 = .slice none 0 0 ∧ s5 = .int .i64 0 ∧ (∃ mm : Nat, s6 = .int .i64 (mm : Int) ∧ mm ≤ ls.length ∧ mm ≤ 499) ∧ wc = w1)
  case first =>
    go_wp2_with fail
    all_goals
      go_meet
      case rel => exact ⟨rfl, rfl, rfl, rfl, by first | exact ⟨499, rfl, by omega, by omega⟩ | exact ⟨ls.length, rfl, by omega, by omega⟩, rfl⟩
  case rest =>
    obtain ⟨rfl, rfl, rfl, rfl, ⟨mm, rfl, hm1, hm2⟩, rfl⟩ := hcut
    have X0 : CI w.heap.size w wc tb gb 0 (Tg.fresh 0 5) S1 (.slice none 0 0) [] := ⟨⟨K1, World.ownsRow_nil _ _ _ _, fun k hk => by simp [Value.ownBlock] at hk, fun k hk => by simp [Value.ownBlock] at hk, hz1⟩, ⟨rfl, rfl, fun k hk => by simp [Tg.fresh] at hk, fun k hk => by simp at hk, fun k hk => by simp [Tg.fresh] at hk, fun k hk => by simp [Tg.fresh] at hk⟩, rfl, by simp [Tg.fresh]⟩
    clear K1 BG
    obtain ⟨i0, hi0, hz0, hz1', hz2⟩ := info_parts Try.infoInt
    have HI : Hid (Try.prog.info? 3 = some i0 ∧ i0.zero = some (.int .i64 0) ∧ i0.size = 1 ∧ i0.bytes = 8) := hid ⟨hi0, hz0, hz1', hz2⟩
    clear hi0 hz0 hz1' hz2
    have em := wrapId ((mm : Int) + 1) (by omega) (by omega)
    go_wp2_with fail
    go_loopg [4, 5, 7] (mm + 1) (fun r uv tv iv wr => ∃ i g S uv' us, i + r = mm + 1 ∧ uv = uv' ∧ tv = .int .i64 g.time ∧ iv = .int .i64 (i : Int) ∧ CI w.heap.size w wr tb gb i g S uv' us ∧ (i ≤ mm ∨ ∃ k, ∃ hk : k < us.length, us[k] = -1))
    case atStart => exact ⟨0, _, _, _, _, by omega, rfl, rfl, rfl, X0, Or.inl (by omega)⟩
    case round =>
      obtain ⟨i, g, S, uv, us, hi, rfl, rfl, rfl, X, hlast⟩ := hrel
      clear X0
      obtain ⟨uo, ucap, rfl⟩ := X.cl.form
      have t0 := X.cl.kl.c0
      have hul := X.len
      have htm := X.time
      have ht1 := X.cl.kl.ga.ok.t1
      have hgl := X.ck.len
      have HUL := hid hul
      have hus : us.length ≤ 499 + 1 := by omega
      by_cases hlt : i < mm + 1
      · have e1 := wrapId ((i : Int) + 1) (by omega) (by omega)
        have eb : ((i : Int).tmod 3) = ((i % 3 : Nat) : Int) := by rw [Int.tmod_eq_emod_of_nonneg (by omega)]; omega
        have hb3 : i % 3 < 3 := Nat.mod_lt _ (by omega)
        generalize i % 3 = b at eb hb3
        by_cases hlm : i < mm
        · obtain ⟨ab, off, hab, rfl, ca, bi⟩ := hcells i (by omega)
          have CA := fun w1 (h : Below w.heap.size w w1) => (World.cell?_of_block (a := ⟨ab, off + i, none⟩) (h.block ab hab)).trans ca
          have c0 := CA _ X.cl.kl.bel
          obtain ⟨c, ec⟩ : ∃ c, ls[i]'(by omega) = c := ⟨_, rfl⟩
          rw [ec] at c0 bi
          simp only [ec] at CA
          have P1 := kpick_any c 9 (by omega) (by omega) bi.1 bi.2
          have P2 := kpick_any c 2 (by omega) (by omega) bi.1 bi.2
          have l1 := pk_lt c 9 (by omega)
          have l2 := pk_lt c 2 (by omega)
          generalize pk c 9 = r at P1 l1
          generalize pk c 2 = r2 at P2 l2
          have e2 := wrapId ((r : Int) - 1) (by omega) (by omega)
          have hil : i < ls.length := by omega
          clear ec ca
          obtain ⟨wv, ewv⟩ : ∃ wv, (r : Int) - 1 = wv := ⟨_, rfl⟩
          have hw1 : -1 ≤ wv ∧ wv ≤ 7 := by omega
          rw [ewv] at e2
          have e2' : IntKind.i64.wrap ((r : Int) - 1) = wv := by rw [ewv]; exact e2
          clear e2 ewv
          have AS := X.ck.asks X.cl.kl.ga.ok b wv ⟨by omega, by omega⟩ ⟨by omega, by omega⟩
          obtain ⟨C2, a1, a2, a3, a4, a5, _⟩ := AS
          have AK := ga_ask X.cl.kl.ga 1 b wv (by omega) (by omega)
          rw [a1, a2, a3, a4] at AK
          generalize Tg.asked g 1 b wv = g2 at C2 AK a5
          have A5 := hid a5
          clear a1 a2 a3 a4 a5
          have hr2 : r2 = 0 ∨ r2 = 1 := by omega
          have e3 := wrapId (g.time + wv) (by omega) (by omega)
          have e4 := wrapId (g.time + 1) (by omega) (by omega)
          clear hul hgl htm ht1 l2
          have htm := X.time
          have ht1 := X.cl.kl.ga.ok.t1
          by_cases hw0 : wv = 0
          · subst hw0
            rw [if_pos rfl] at AK
            rw [show Tg.untilOf 0 g.time = -2 from rfl] at C2
            go_wp2_with (first | (go_at_call 14; refine (P1 _).mono ?_; rintro e w' ⟨rfl, rfl⟩) | fail)
            refine AK.mono ?_
            rintro e w2 ⟨rfl, G2⟩
            obtain ⟨S2, X2⟩ := X.cl.gs G2
            clear AK G2
            go_wp2_with (first | (at_builtin; refine wpList_append_own2 rfl (.tmp 62) (.tmp 64) 40 rfl 3 i0 (.int .i64 0) 1 8 Try.underlying40 HI.out.1 HI.out.2.1 HI.out.2.2.1 HI.out.2.2.2 rfl (by decide) (.slice uo us.length ucap) us.length (ivs us) rfl ?c1 ⟨w2.heap.size, 0, none⟩ 1 1 [.int .i64 (-2)] rfl rfl ?c2 ?c3 ?c4 ?c5 ?_) | fail)
            case c1 => exact (X2.grow (w' := w2.alloc (.cells #[.int .i64 (-2)] 3)) ((Tch.refl _ _).alloc _)).row
            case c2 =>
              intro j u hj
              rw [Addr.add_lit, World.cell?_alloc_at _ _ _ _ (by simp)]
              cases j with
              | zero => simpa using hj
              | succ j => simp at hj
            case c3 => intro u hu; simp at hu; subst hu; rfl
            case c4 => unfold maxLen; omega
            case c5 => omega
            intro uv' w3 hown hgrow hmv
            have X3 := (X2.grow (w' := w2.alloc (.cells #[.int .i64 (-2)] 3)) ((Tch.refl _ _).alloc _)).app (-2) hown hgrow hmv
            obtain ⟨ub, ucap', rfl⟩ := ownsRow_form hown (by omega)
            have t3 := X3.kl.c0
            clear X2 hown hgrow hmv
            have c3 := CA _ X3.kl.bel
            clear CA
            rcases hr2 with rfl | rfl
            · have TK := ga_tick X3.kl.ga (by rw [← C2.len]; simp; omega) (by rw [A5.out]; omega)
              go_wp2_with (first | (go_at_call 14; refine (P2 _).mono ?_; rintro e w' ⟨rfl, rfl⟩) | fail)
              refine TK.mono ?_
              rintro e w4 ⟨rfl, G4⟩
              obtain ⟨S4, X4⟩ := X3.gs G4
              have C4 := C2.ticks X3.kl.ga.ok
              have CK := clocked_any X4 C4 (by simp; omega)
              have ET : Hid ((Tg.tick g2).time = g.time + 1) := hid (by show g2.time + 1 = _; rw [A5.out])
              rw [ET.out] at CK
              clear TK X3 G4 C2
              go_wp2_with fail
              refine CK.mono ?_
              rintro e w5 ⟨rfl, X5⟩
              clear CK
              go_wp2
              go_roundg (gk - 1)
              case rel => exact ⟨i + 1, _, S4, _, _, by omega, rfl, by rw [ET.out], by simp, ⟨X5, C4, by simp; exact HUL.out, by rw [ET.out]; omega⟩, Or.inl (by omega)⟩
              case measure => omega
            · have CK := clocked_any X3 C2 (by simp; omega)
              rw [A5.out] at CK
              go_wp2_with (first | (go_at_call 14; refine (P2 _).mono ?_; rintro e w' ⟨rfl, rfl⟩) | fail)
              refine CK.mono ?_
              rintro e w5 ⟨rfl, X5⟩
              clear CK
              go_wp2
              go_roundg (gk - 1)
              case rel => exact ⟨i + 1, g2, S2, _, _, by omega, rfl, by rw [A5.out], by simp, ⟨X5, C2, by simp; exact HUL.out, by rw [A5.out]; omega⟩, Or.inl (by omega)⟩
              case measure => omega
          · rw [if_neg hw0] at AK
            have d0 : (wv == 0) = false := by simpa using hw0
            by_cases hwn : wv < 0
            · have d1 : decide (wv < 0) = true := by simpa using hwn
              rw [show Tg.untilOf wv g.time = -1 by unfold Tg.untilOf; rw [if_neg hw0, if_pos hwn]] at C2
              clear hw0 hwn
              go_wp2_with (first | (go_at_call 14; refine (P1 _).mono ?_; rintro e w' ⟨rfl, rfl⟩) | fail)
              refine AK.mono ?_
              rintro e w2 ⟨rfl, G2⟩
              obtain ⟨S2, X2⟩ := X.cl.gs G2
              clear AK G2
              go_wp2_with (first | (at_builtin; refine wpList_append_own2 rfl (.tmp 62) (.tmp 64) 40 rfl 3 i0 (.int .i64 0) 1 8 Try.underlying40 HI.out.1 HI.out.2.1 HI.out.2.2.1 HI.out.2.2.2 rfl (by decide) (.slice uo us.length ucap) us.length (ivs us) rfl ?c1 ⟨w2.heap.size, 0, none⟩ 1 1 [.int .i64 (-1)] rfl rfl ?c2 ?c3 ?c4 ?c5 ?_) | fail)
              case c1 => exact (X2.grow (w' := w2.alloc (.cells #[.int .i64 (-1)] 3)) ((Tch.refl _ _).alloc _)).row
              case c2 =>
                intro j u hj
                rw [Addr.add_lit, World.cell?_alloc_at _ _ _ _ (by simp)]
                cases j with
                | zero => simpa using hj
                | succ j => simp at hj
              case c3 => intro u hu; simp at hu; subst hu; rfl
              case c4 => unfold maxLen; omega
              case c5 => omega
              intro uv' w3 hown hgrow hmv
              have X3 := (X2.grow (w' := w2.alloc (.cells #[.int .i64 (-1)] 3)) ((Tch.refl _ _).alloc _)).app (-1) hown hgrow hmv
              obtain ⟨ub, ucap', rfl⟩ := ownsRow_form hown (by omega)
              have t3 := X3.kl.c0
              clear X2 hown hgrow hmv
              have c3 := CA _ X3.kl.bel
              clear CA
              rcases hr2 with rfl | rfl
              · have TK := ga_tick X3.kl.ga (by rw [← C2.len]; simp; omega) (by rw [A5.out]; omega)
                go_wp2_with (first | (go_at_call 14; refine (P2 _).mono ?_; rintro e w' ⟨rfl, rfl⟩) | fail)
                refine TK.mono ?_
                rintro e w4 ⟨rfl, G4⟩
                obtain ⟨S4, X4⟩ := X3.gs G4
                have C4 := C2.ticks X3.kl.ga.ok
                have CK := clocked_any X4 C4 (by simp; omega)
                have ET : Hid ((Tg.tick g2).time = g.time + 1) := hid (by show g2.time + 1 = _; rw [A5.out])
                rw [ET.out] at CK
                clear TK X3 G4 C2
                go_wp2_with fail
                refine CK.mono ?_
                rintro e w5 ⟨rfl, X5⟩
                clear CK
                go_wp2
                go_roundg (gk - 1)
                case rel => exact ⟨i + 1, _, S4, _, _, by omega, rfl, by rw [ET.out], by simp, ⟨X5, C4, by simp; exact HUL.out, by rw [ET.out]; omega⟩, Or.inl (by omega)⟩
                case measure => omega
              · have CK := clocked_any X3 C2 (by simp; omega)
                rw [A5.out] at CK
                go_wp2_with (first | (go_at_call 14; refine (P2 _).mono ?_; rintro e w' ⟨rfl, rfl⟩) | fail)
                refine CK.mono ?_
                rintro e w5 ⟨rfl, X5⟩
                clear CK
                go_wp2
                go_roundg (gk - 1)
                case rel => exact ⟨i + 1, g2, S2, _, _, by omega, rfl, by rw [A5.out], by simp, ⟨X5, C2, by simp; exact HUL.out, by rw [A5.out]; omega⟩, Or.inl (by omega)⟩
                case measure => omega
            · have d1 : decide (wv < 0) = false := by simpa using hwn
              rw [show Tg.untilOf wv g.time = g.time + wv by unfold Tg.untilOf; rw [if_neg hw0, if_neg hwn]] at C2
              clear hw0 hwn
              go_wp2_with (first | (go_at_call 14; refine (P1 _).mono ?_; rintro e w' ⟨rfl, rfl⟩) | fail)
              refine AK.mono ?_
              rintro e w2 ⟨rfl, G2⟩
              obtain ⟨S2, X2⟩ := X.cl.gs G2
              clear AK G2
              go_wp2_with (first | (at_builtin; refine wpList_append_own2 rfl (.tmp 62) (.tmp 64) 40 rfl 3 i0 (.int .i64 0) 1 8 Try.underlying40 HI.out.1 HI.out.2.1 HI.out.2.2.1 HI.out.2.2.2 rfl (by decide) (.slice uo us.length ucap) us.length (ivs us) rfl ?c1 ⟨w2.heap.size, 0, none⟩ 1 1 [.int .i64 (g.time + wv)] rfl rfl ?c2 ?c3 ?c4 ?c5 ?_) | fail)
              case c1 => exact (X2.grow (w' := w2.alloc (.cells #[.int .i64 (g.time + wv)] 3)) ((Tch.refl _ _).alloc _)).row
              case c2 =>
                intro j u hj
                rw [Addr.add_lit, World.cell?_alloc_at _ _ _ _ (by simp)]
                cases j with
                | zero => simpa using hj
                | succ j => simp at hj
              case c3 => intro u hu; simp at hu; subst hu; rfl
              case c4 => unfold maxLen; omega
              case c5 => omega
              intro uv' w3 hown hgrow hmv
              have X3 := (X2.grow (w' := w2.alloc (.cells #[.int .i64 (g.time + wv)] 3)) ((Tch.refl _ _).alloc _)).app (g.time + wv) hown hgrow hmv
              obtain ⟨ub, ucap', rfl⟩ := ownsRow_form hown (by omega)
              have t3 := X3.kl.c0
              clear X2 hown hgrow hmv
              have c3 := CA _ X3.kl.bel
              clear CA
              rcases hr2 with rfl | rfl
              · have TK := ga_tick X3.kl.ga (by rw [← C2.len]; simp; omega) (by rw [A5.out]; omega)
                go_wp2_with (first | (go_at_call 14; refine (P2 _).mono ?_; rintro e w' ⟨rfl, rfl⟩) | fail)
                refine TK.mono ?_
                rintro e w4 ⟨rfl, G4⟩
                obtain ⟨S4, X4⟩ := X3.gs G4
                have C4 := C2.ticks X3.kl.ga.ok
                have CK := clocked_any X4 C4 (by simp; omega)
                have ET : Hid ((Tg.tick g2).time = g.time + 1) := hid (by show g2.time + 1 = _; rw [A5.out])
                rw [ET.out] at CK
                clear TK X3 G4 C2
                go_wp2_with fail
                refine CK.mono ?_
                rintro e w5 ⟨rfl, X5⟩
                clear CK
                go_wp2
                go_roundg (gk - 1)
                case rel => exact ⟨i + 1, _, S4, _, _, by omega, rfl, by rw [ET.out], by simp, ⟨X5, C4, by simp; exact HUL.out, by rw [ET.out]; omega⟩, Or.inl (by omega)⟩
                case measure => omega
              · have CK := clocked_any X3 C2 (by simp; omega)
                rw [A5.out] at CK
                go_wp2_with (first | (go_at_call 14; refine (P2 _).mono ?_; rintro e w' ⟨rfl, rfl⟩) | fail)
                refine CK.mono ?_
                rintro e w5 ⟨rfl, X5⟩
                clear CK
                go_wp2
                go_roundg (gk - 1)
                case rel => exact ⟨i + 1, g2, S2, _, _, by omega, rfl, by rw [A5.out], by simp, ⟨X5, C2, by simp; exact HUL.out, by rw [A5.out]; omega⟩, Or.inl (by omega)⟩
                case measure => omega
        · have AS := X.ck.asks X.cl.kl.ga.ok b (-1) ⟨by omega, by omega⟩ ⟨by omega, by omega⟩
          obtain ⟨C2, a1, a2, a3, a4, a5, _⟩ := AS
          have AK := ga_ask X.cl.kl.ga 1 b (-1) (by omega) (by omega)
          rw [a1, a2, a3, a4, if_neg (by omega)] at AK
          rw [show Tg.untilOf (-1) g.time = -1 from rfl] at C2
          generalize Tg.asked g 1 b (-1) = g2 at C2 AK a5
          have A5 := hid a5
          clear a1 a2 a3 a4 a5
          have e3 := wrapId (g.time + -1) (by omega) (by omega)
          clear hul hgl htm ht1
          have htm := X.time
          have ht1 := X.cl.kl.ga.ok.t1
          go_wp2_with fail
          refine AK.mono ?_
          rintro e w2 ⟨rfl, G2⟩
          obtain ⟨S2, X2⟩ := X.cl.gs G2
          clear AK G2
          go_wp2_with (first | (at_builtin; refine wpList_append_own2 rfl (.tmp 62) (.tmp 64) 40 rfl 3 i0 (.int .i64 0) 1 8 Try.underlying40 HI.out.1 HI.out.2.1 HI.out.2.2.1 HI.out.2.2.2 rfl (by decide) (.slice uo us.length ucap) us.length (ivs us) rfl ?c1 ⟨w2.heap.size, 0, none⟩ 1 1 [.int .i64 (-1)] rfl rfl ?c2 ?c3 ?c4 ?c5 ?_) | fail)
          case c1 => exact (X2.grow (w' := w2.alloc (.cells #[.int .i64 (-1)] 3)) ((Tch.refl _ _).alloc _)).row
          case c2 =>
            intro j u hj
            rw [Addr.add_lit, World.cell?_alloc_at _ _ _ _ (by simp)]
            cases j with
            | zero => simpa using hj
            | succ j => simp at hj
          case c3 => intro u hu; simp at hu; subst hu; rfl
          case c4 => unfold maxLen; omega
          case c5 => omega
          intro uv' w3 hown hgrow hmv
          have X3 := (X2.grow (w' := w2.alloc (.cells #[.int .i64 (-1)] 3)) ((Tch.refl _ _).alloc _)).app (-1) hown hgrow hmv
          obtain ⟨ub, ucap', rfl⟩ := ownsRow_form hown (by omega)
          have t3 := X3.kl.c0
          clear X2 hown hgrow hmv
          have CK := clocked_any X3 C2 (by simp; omega)
          rw [A5.out] at CK
          go_wp2_with fail
          refine CK.mono ?_
          rintro e w5 ⟨rfl, X5⟩
          clear CK
          go_wp2
          go_roundg (gk - 1)
          case rel => exact ⟨i + 1, g2, S2, _, _, by omega, rfl, by rw [A5.out], by simp, ⟨X5, C2, by simp; exact HUL.out, by rw [A5.out]; omega⟩, Or.inr ⟨us.length, by simp, by simp⟩⟩
          case measure => omega
      · have hex : ∃ k, ∃ hk : k < us.length, us[k] = -1 := by
          rcases hlast with x | x
          · omega
          · exact x
        have ok := X.cl.kl.ga.ok
        have er : Tg.resize g 1000 = ({ g with room := 1000, all := Tg.letIn 1000 g.pass g.all }, 0) := by unfold Tg.resize; rw [if_pos (by omega)]
        have RS := ga_resize X.cl.kl.ga 1000 (by omega)
        rw [er] at RS
        have OP := X.ck.opens ok (by omega)
        have hl5 : (Tg.letIn 1000 g.pass g.all).length = us.length := by rw [Tg.letIn_length, hgl]
        have ok5 : Tg.TksOk g.pass (Tg.letIn 1000 g.pass g.all) := Tg.letIn_ok ok.p2 ok.ok
        have HPOS : Hid (1 ≤ Tg.held (Tg.letIn 1000 g.pass g.all)) := hid (by
          obtain ⟨k, hk, ek⟩ := hex
          obtain ⟨o1, o2⟩ := OP k (by omega) hk
          rw [if_pos (Or.inl ek)] at o2
          have := held_ge _ ok5 k (by omega) o2
          omega)
        generalize hq : Tg.letIn 1000 g.pass g.all = l5 at RS OP hl5 ok5 HPOS
        have HL5 := hid hl5
        clear er hex hq hul hgl hl5
        go_wp2_with fail
        refine RS.mono ?_
        rintro e w6 ⟨rfl, G6⟩
        obtain ⟨S6, X6⟩ := X.cl.gs G6
        have tm := X.time
        have ht2 := X.cl.kl.ga.ok.t1
        clear RS G6 X htm
        go_wp2
        go_loopg [16, 17] us.length (fun r hv iv wr => ∃ j : Nat, j + r = us.length ∧ hv = .int .i64 (Tg.held (l5.take j)) ∧ iv = .int .i64 (j : Int) ∧ CL w.heap.size w wr tb gb { g with room := 1000, all := l5 } S6 (.slice uo us.length ucap) us)
        case atStart => exact ⟨0, by omega, rfl, rfl, X6⟩
        case round =>
          obtain ⟨j, hj, rfl, rfl, Y⟩ := hrel
          clear X6
          have y0 := Y.kl.c0
          by_cases hjl : j < us.length
          · have hj5 : j < l5.length := by have := HL5.out; omega
            obtain ⟨o1, o2⟩ := OP j hj5 hjl
            have hsucc := Tg.held_take_succ l5 j hj5
            have hbd := Tg.held_bounds g.pass _ (ok5.take j)
            have hbl : (l5.take j).length ≤ us.length := by have := HL5.out; simp; omega
            have SA := ga_state Y.kl.ga ((j : Int) + 1)
            have es : Tg.stateOf l5 ((j : Int) + 1) = (l5[j].state, 0) := by
              unfold Tg.stateOf
              rw [if_pos (by omega)]
              simp [hj5]
            rw [show ({ g with room := 1000, all := l5 } : Tg.Gt).all = l5 from rfl, es] at SA
            have AT := fun w1 (Y1 : CL w.heap.size w w1 tb gb { g with room := 1000, all := l5 } S6 (.slice uo us.length ucap) us) => Y1.at rfl j hjl
            have e5 := wrapId ((j : Int) + 1) (by omega) (by omega)
            obtain ⟨u, eu⟩ : ∃ u, us[j] = u := ⟨_, rfl⟩
            rw [eu] at o2
            simp only [eu] at AT
            rw [o1] at hsucc
            obtain ⟨st, est⟩ : ∃ x, l5[j].state = x := ⟨_, rfl⟩
            rw [est] at o2 hsucc SA
            obtain ⟨hd, ehd⟩ : ∃ x, Tg.held (l5.take j) = x := ⟨_, rfl⟩
            rw [ehd] at hbd hsucc ⊢
            have HS := hid hsucc
            have e6 := wrapId (hd + 1) (by omega) (by omega)
            clear eu est ehd hsucc o1 es
            go_wp2_with fail
            refine SA.mono ?_
            rintro e w7 ⟨rfl, G7, T7⟩
            have Y7 := Y.same G7 T7
            obtain ⟨ub, rfl, cu⟩ := AT w7 Y7
            clear SA AT G7 T7 Y y0
            by_cases hu1 : u = -1
            · subst hu1
              rw [if_pos (Or.inl rfl)] at o2
              subst o2
              go_wp2
              go_roundg (gk - 1)
              case rel => exact ⟨j + 1, by omega, by rw [HS.out]; simp, by simp, Y7⟩
              case measure => omega
            · have d1 : (u == -1) = false := by simpa using hu1
              by_cases hu2 : g.time < u
              · have d2 : decide (g.time < u) = true := by simpa using hu2
                rw [if_pos (Or.inr hu2)] at o2
                subst o2
                clear hu1 hu2
                go_wp2
                go_roundg (gk - 1)
                case rel => exact ⟨j + 1, by omega, by rw [HS.out]; simp, by simp, Y7⟩
                case measure => omega
              · have d2 : decide (g.time < u) = false := by simpa using hu2
                rw [if_neg (by rintro (x | x); exact hu1 x; exact hu2 x)] at o2
                have hn2 : st ≠ 2 := by rw [o2]; exact Tg.stc_ne _ _
                have d3 : (st == 2) = false := by simpa using hn2
                have HN := hid hn2
                clear hu1 hu2 o2 hn2
                go_wp2
                go_roundg (gk - 1)
                case rel => exact ⟨j + 1, by omega, by rw [HS.out, if_neg HN.out]; simp, by simp, Y7⟩
                case measure => omega
          · have et : l5.take j = l5 := List.take_of_length_le (by have := HL5.out; omega)
            rw [et]
            have HA := ga_held Y.kl.ga
            rw [show ({ g with room := 1000, all := l5 } : Tg.Gt).all = l5 from rfl] at HA
            have hp := HPOS.out
            obtain ⟨hd, ehd⟩ : ∃ x, Tg.held l5 = x := ⟨_, rfl⟩
            rw [ehd] at HA hp ⊢
            have d1 : decide (0 < hd) = true := by simp; omega
            clear ehd et hp HPOS
            go_wp2_with fail
            refine HA.mono ?_
            rintro e w8 ⟨rfl, G8, T8⟩
            have Y8 := Y.same G8 T8
            go_wp2
            go_ret
            exact ⟨rfl, Y8.kl.bel⟩

end Go.Proofs.Ytekjgjhhjlcoaaa
