import Derived.Test.YtekjgjhhjlcoaaaKeepB
namespace Tg

/-- How a new ticket stands behind the letting in. -/
theorem asked_state (g : Gt) (weight band wait : Int) :
    ((asked g weight band wait).all.getD g.all.length ⟨0, 0, 0, 0, 0⟩).state = 2 ∨ (((asked g weight band wait).all.getD g.all.length ⟨0, 0, 0, 0, 0⟩).state = 1 ∧ wait ≠ 0) ∨ (((asked g weight band wait).all.getD g.all.length ⟨0, 0, 0, 0, 0⟩).state = 3 ∧ wait = 0) := by
  have L := letIn_lets g.room g.pass (g.all ++ [ticket g weight band wait])
  have h := L.st g.all.length
  rw [tkAt_snoc, if_pos rfl] at h
  change (tkAt (asked g weight band wait).all g.all.length).state = _ ∨ ((ticket g weight band wait).state = 1 ∧ (tkAt (asked g weight band wait).all g.all.length).state = 2) at h
  show (tkAt (asked g weight band wait).all g.all.length).state = 2 ∨ ((tkAt (asked g weight band wait).all g.all.length).state = 1 ∧ _) ∨ ((tkAt (asked g weight band wait).all g.all.length).state = 3 ∧ _)
  rcases h with h | ⟨_, h⟩
  · rw [h]
    unfold ticket
    by_cases h1 : turn g.pass g.all = 0 ∧ held g.all + weight ≤ g.room
    · left; simp [h1]
    · by_cases h2 : wait = 0
      · right; right; simp [h1, h2]
      · right; left; simp [h1, h2]
  · exact Or.inl h
end Tg
namespace Go.Proofs.Ytekjgjhhjlcoaaa
open Go.RowKit Go.Conc

def actV (x a b c : Int) : Value := .agg #[.int .i64 x, .int .i64 a, .int .i64 b, .int .i64 c]

section
variable {N : Nat} {w0 w : World} {tb gb : Nat} {g : Tg.Gt} {S : Nat → Prop} {lv : Value} {s : List Tg.Sn}

attribute [local go_sem] alloc_drewN setCell_drewN

set_option maxRecDepth 20000 in
set_option maxHeartbeats 4000000 in
theorem does_ask (K : KL N w0 w tb gb g S g.room lv s) (hN : N ≤ w.heap.size) (hsl : s.length = g.all.length) (x a b c : Int) (hx : I64 x) (ha : I64 a) (hb : I64 b) (hc : I64 c) (hr : pk x 8 < 4) (hl : g.all.length + 1 ≤ 8796093022208) (ht : g.time ≤ 4611686018427387904) :
    Calls Try.prog 16 #[.pointer (some ⟨tb, 0, none⟩), actV x a b c] w fun e w' => e = .returned (.bool true) ∧
      ∃ S' lv', KL N w0 w' tb gb (Tg.asked g (1 + pk a 10) (pk b 3) (pk c 6 - 1)) S' g.room lv' (s ++ [⟨1 + pk a 10, 1, 0⟩]) ∧ w.heap.size ≤ w'.heap.size := by
  have P1 := kpick_any x 8 (by omega) (by omega) hx.1 hx.2
  have P2 := kpick_any a 10 (by omega) (by omega) ha.1 ha.2
  have P3 := kpick_any b 3 (by omega) (by omega) hb.1 hb.2
  have P4 := kpick_any c 6 (by omega) (by omega) hc.1 hc.2
  have l2 := pk_lt a 10 (by omega)
  have l3 := pk_lt b 3 (by omega)
  have l4 := pk_lt c 6 (by omega)
  have K1 := K.grow hN (w' := w.alloc (.cells #[.int .i64 x, .int .i64 a, .int .i64 b, .int .i64 c] 32)) ((Tch.refl _ _).alloc _)
  have AK := ga_ask K1.ga (1 + pk a 10) (pk b 3) (pk c 6 - 1) (by omega) ht
  have he : Tg.askErr (1 + pk a 10) (pk b 3) (pk c 6 - 1) = 0 := by unfold Tg.askErr; rw [if_neg (by omega), if_neg (by omega), if_neg (by omega)]
  have hask : Tg.ask g (1 + pk a 10) (pk b 3) (pk c 6 - 1) = (Tg.asked g (1 + pk a 10) (pk b 3) (pk c 6 - 1), (g.all.length : Int) + 1, ((Tg.asked g (1 + pk a 10) (pk b 3) (pk c 6 - 1)).all.getD g.all.length ⟨0, 0, 0, 0, 0⟩).state, 0) := by unfold Tg.ask; rw [if_pos he]
  rw [hask] at AK
  have hst := Tg.asked_state g (1 + pk a 10) (pk b 3) (pk c 6 - 1)
  obtain ⟨st, est⟩ : ∃ st, ((Tg.asked g (1 + pk a 10) (pk b 3) (pk c 6 - 1)).all.getD g.all.length ⟨0, 0, 0, 0, 0⟩).state = st := ⟨_, rfl⟩
  rw [est] at hst AK
  obtain ⟨g', eg'⟩ : ∃ g', Tg.asked g (1 + pk a 10) (pk b 3) (pk c 6 - 1) = g' := ⟨_, rfl⟩
  rw [eg'] at AK ⊢
  rw [← hsl] at AK
  clear est eg' hask he
  generalize pk x 8 = r at P1 hr
  generalize pk a 10 = ra at P2 l2 AK ⊢
  generalize pk b 3 = rb at P3 l3 AK
  generalize pk c 6 = rc at P4 l4 AK hst
  have e1 := wrapId (1 + (ra : Int)) (by omega) (by omega)
  have e2 := wrapId ((rc : Int) - 1) (by omega) (by omega)
  have e3 := wrapId ((s.length : Int) + 1) (by omega) (by omega)
  have t0 := K1.c0
  obtain ⟨i0, hi, hz0, hz1, hz2⟩ := info_parts Try.infoSeen
  have HI : Hid (Try.prog.info? 39 = some i0 ∧ i0.zero = some (.agg #[.int .i64 0, .int .i64 0, .int .i64 0]) ∧ i0.size = 3 ∧ i0.bytes = 24) := hid ⟨hi, hz0, hz1, hz2⟩
  have HL : s.length + 1 ≤ 8796093022208 := by omega
  clear hi hz0 hz1 hz2 K hsl
  have hr4 : r = 0 ∨ r = 1 ∨ r = 2 ∨ r = 3 := by omega
  clear hr
  unfold actV
  rcases hr4 with rfl | rfl | rfl | rfl
  all_goals
    go_enter Try.func16, Try.ntmps16
    go_wp2_with (first | (go_at_call_of 14 (Value.int .i64 8); refine (P1 _).mono ?_; rintro e w' ⟨rfl, rfl⟩) | (go_at_call_of 14 (Value.int .i64 10); refine (P2 _).mono ?_; rintro e w' ⟨rfl, rfl⟩) | (go_at_call_of 14 (Value.int .i64 3); refine (P3 _).mono ?_; rintro e w' ⟨rfl, rfl⟩) | (go_at_call_of 14 (Value.int .i64 6); refine (P4 _).mono ?_; rintro e w' ⟨rfl, rfl⟩) | fail)
    refine AK.mono ?_
    rintro e w1 ⟨rfl, G1⟩
    obtain ⟨S1, K2, hz⟩ := K1.gs (by simp; omega) G1
    simp at hz
    have t2 := K2.c2
    have f2 := K2.fr 2
    obtain ⟨ao, cap, rfl, _, _⟩ := K2.form
    have fin : ∀ lv' w4, w4.ownsRow 0 39 3 lv' (s.length + 1) (snCells s ++ snVals ⟨1 + (ra : Int), 1, 0⟩) → (w1.alloc (.cells #[.int .i64 (1 + (ra : Int)), .int .i64 1, .int .i64 0] 39)).grownBy w4 (Value.slice ao s.length cap).ownBlock → Moved (w1.alloc (.cells #[.int .i64 (1 + (ra : Int)), .int .i64 1, .int .i64 0] 39)) (.slice ao s.length cap) lv' →
        w4.cell? ⟨tb, 2, none⟩ = some (.slice ao s.length cap) ∧ w4.frozen? ⟨tb, 2, none⟩ = false ∧ KL N w0 (w4.setCell ⟨tb, 2, none⟩ lv') tb gb g' S1 g.room lv' (s ++ [⟨1 + (ra : Int), 1, 0⟩]) ∧ w.heap.size ≤ w4.heap.size := by
      intro lv' w4 hown hgrow hmv
      have hgs := hgrow.size
      simp at hgs
      obtain ⟨q1, q2, q3⟩ := (K2.grow (by omega) ((Tch.refl _ _).alloc _)).app (by simp; omega) ⟨1 + (ra : Int), 1, 0⟩ hown hgrow hmv
      exact ⟨q1, q2, q3, by omega⟩
    have K3 := K2.grow (by omega) (w' := w1.alloc (.cells #[.int .i64 (1 + (ra : Int)), .int .i64 1, .int .i64 0] 39)) ((Tch.refl _ _).alloc _)
    have row3 := K3.row
    clear P1 P2 P3 P4 AK G1 K1 K2 K3
    rcases hst with rfl | ⟨rfl, hw⟩ | ⟨rfl, hw⟩
    rotate_left
    · have hw' : ((rc : Int) - 1 == 0) = false := by simpa using hw
      clear hw
      go_wp2_with (first | (at_builtin; refine wpList_append_own3 rfl (.tmp 116) (.tmp 119) 35 rfl 39 i0 _ 3 24 Try.underlying35 HI.out.1 HI.out.2.1 HI.out.2.2.1 HI.out.2.2.2 rfl (by decide) (.slice ao s.length cap) s.length (snCells s) rfl ?c1 ⟨w1.heap.size, 0, none⟩ 1 1 (snVals ⟨1 + (ra : Int), 1, 0⟩) rfl rfl ?c2 ?c3 ?c4 ?c5 ?_) | fail)
      case c1 => exact row3
      case c2 =>
        intro j u hj
        rw [Addr.add_lit, World.cell?_alloc_at _ _ _ _ (by simp)]
        simpa [snVals] using hj
      case c3 => intro u hu; simp [snVals] at hu; rcases hu with rfl | rfl | rfl <;> rfl
      case c4 => unfold maxLen; omega
      case c5 => omega
      intro lv' w4 hown hgrow hmv
      obtain ⟨q1, q2, q3, q4⟩ := fin lv' w4 hown hgrow hmv
      obtain ⟨ab, cp, rfl⟩ := ownsRow_form hown (by omega)
      clear fin hown hgrow hmv row3 HI
      go_wp2
      go_ret
      exact ⟨rfl, _, _, q3, by simpa using q4⟩
    · have hw' : ((rc : Int) - 1 != 0) = false := by simpa using hw
      clear hw
      go_wp2_with (first | (at_builtin; refine wpList_append_own3 rfl (.tmp 116) (.tmp 119) 35 rfl 39 i0 _ 3 24 Try.underlying35 HI.out.1 HI.out.2.1 HI.out.2.2.1 HI.out.2.2.2 rfl (by decide) (.slice ao s.length cap) s.length (snCells s) rfl ?c1 ⟨w1.heap.size, 0, none⟩ 1 1 (snVals ⟨1 + (ra : Int), 1, 0⟩) rfl rfl ?c2 ?c3 ?c4 ?c5 ?_) | fail)
      case c1 => exact row3
      case c2 =>
        intro j u hj
        rw [Addr.add_lit, World.cell?_alloc_at _ _ _ _ (by simp)]
        simpa [snVals] using hj
      case c3 => intro u hu; simp [snVals] at hu; rcases hu with rfl | rfl | rfl <;> rfl
      case c4 => unfold maxLen; omega
      case c5 => omega
      intro lv' w4 hown hgrow hmv
      obtain ⟨q1, q2, q3, q4⟩ := fin lv' w4 hown hgrow hmv
      obtain ⟨ab, cp, rfl⟩ := ownsRow_form hown (by omega)
      clear fin hown hgrow hmv row3 HI
      go_wp2
      go_ret
      exact ⟨rfl, _, _, q3, by simpa using q4⟩
    · go_wp2_with (first | (at_builtin; refine wpList_append_own3 rfl (.tmp 116) (.tmp 119) 35 rfl 39 i0 _ 3 24 Try.underlying35 HI.out.1 HI.out.2.1 HI.out.2.2.1 HI.out.2.2.2 rfl (by decide) (.slice ao s.length cap) s.length (snCells s) rfl ?c1 ⟨w1.heap.size, 0, none⟩ 1 1 (snVals ⟨1 + (ra : Int), 1, 0⟩) rfl rfl ?c2 ?c3 ?c4 ?c5 ?_) | fail)
      case c1 => exact row3
      case c2 =>
        intro j u hj
        rw [Addr.add_lit, World.cell?_alloc_at _ _ _ _ (by simp)]
        simpa [snVals] using hj
      case c3 => intro u hu; simp [snVals] at hu; rcases hu with rfl | rfl | rfl <;> rfl
      case c4 => unfold maxLen; omega
      case c5 => omega
      intro lv' w4 hown hgrow hmv
      obtain ⟨q1, q2, q3, q4⟩ := fin lv' w4 hown hgrow hmv
      obtain ⟨ab, cp, rfl⟩ := ownsRow_form hown (by omega)
      clear fin hown hgrow hmv row3 HI
      go_wp2
      go_ret
      exact ⟨rfl, _, _, q3, by simpa using q4⟩
end

end Go.Proofs.Ytekjgjhhjlcoaaa
