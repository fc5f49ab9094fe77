import Derived.Test.YtekjgjhhjlcoaaaLawX
namespace Go.Proofs.Ytekjgjhhjlcoaaa
open Go.RowKit Go.Conc

section
variable {N B : Nat} {w0 w w' : World} {wb : Nat} {lv : Value} {ps : List Pr} {x : Ls}

attribute [local go_sem] alloc_drewN setCell_drewN

set_option maxRecDepth 20000 in
set_option maxHeartbeats 2000000 in
theorem more_hall (H : GateHall) (W : WI N B w0 w wb lv ps x) (hN : N ≤ w.heap.size) (e0 a b c : Int) (hB : B + 1 ≤ 3518437208883) :
    Calls Try.prog 55 #[.pointer (some ⟨wb, 0, none⟩), .agg #[.int .i64 10, .int .i64 e0, .int .i64 a, .int .i64 b, .int .i64 c]] w fun e w' => e = .returned (.bool true) ∧
      ∃ lv' ps', WI N (B + 1) w0 w' wb lv' ps' x ∧ ps.length ≤ ps'.length ∧ w.heap.size ≤ w'.heap.size := by
  have hwl := lt_of_block W.blk
  have W1 := W.grow hN ((Tch.refl _ _).alloc (.cells #[.int .i64 10, .int .i64 e0, .int .i64 a, .int .i64 b, .int .i64 c] 79))
  have HC := H.newHall a b (w.alloc (.cells #[.int .i64 10, .int .i64 e0, .int .i64 a, .int .i64 b, .int .i64 c] 79))
  have hnum := W.num
  clear H
  go_enter Try.func55, Try.ntmps55
  go_wp2_with fail
  refine HC.mono ?_
  rintro e w1 (⟨he, hb, rfl, hhb, hp, ht⟩ | ⟨he, rfl, ht⟩)
  · have d2 : w1.cell? ⟨w.heap.size, 2, none⟩ = some (.int .i64 a) := by
      rw [ht.cell (by simp) (fun x => x), World.cell?_alloc_at _ _ _ _ rfl]; rfl
    have d3 : w1.cell? ⟨w.heap.size, 3, none⟩ = some (.int .i64 b) := by
      rw [ht.cell (by simp) (fun x => x), World.cell?_alloc_at _ _ _ _ rfl]; rfl
    have HR := rhall_any a b w1
    have HE := hid he
    clear he HC
    go_wp2_with fail
    refine HR.mono ?_
    rintro e w2 (⟨he2, ⟨yb, rfl, hy, hyb⟩, hp2, ht2⟩ | ⟨he2, rfl, rfl⟩)
    · clear he2 HR
      have hsz := ht.size
      have hsz2 := ht2.size
      simp at hsz hhb
      have W2 := (W1.grow (by simp; omega) ht).grow (by omega) ht2
      have cw := W2.c0
      have y0 : w2.cell? ⟨yb, 0, none⟩ = some (.pointer (some ⟨w1.heap.size, 0, none⟩)) := by unfold RHall at hy; simp [World.cell?, hy]
      have y1 : w2.cell? ⟨yb, 1, none⟩ = some (.int .i64 a) := by unfold RHall at hy; simp [World.cell?, hy]
      have hbl := hp.ph.lt hb (Or.inl rfl)
      have hyl : yb < w2.heap.size := lt_of_block hy
      have hwl2 : wb < w2.heap.size := by omega
      have hyn : yb ≠ w2.heap.size := by omega
      have hwn : wb ≠ w2.heap.size := by omega
      have hfo : Tg.newErr a b = 0 := by
        have h0 := HE.out
        unfold Tg.hallErr at h0
        split at h0
        · omega
        · exact h0
      have PN : PrOk N (B + 1) w2 ⟨some a, hb, w1.heap.size, Tg.fresh a b, .slice none 0 0, .slice none 0 0, [], []⟩ := by
        refine ⟨⟨hp.ph.tch ht2 (fun _ _ x => x), hp.rel⟩, hp2, Tg.fresh_ok a b hfo, Or.inl rfl, ?_, by simp [Tg.fresh], by simp [Tg.fresh]; omega⟩
        intro k hk
        rcases hk with (x | x | ⟨r, hr, _⟩ | ⟨r, hr, _⟩ | ⟨n, hn, _⟩) | (x | x)
        · have x' : k = hb := x
          omega
        · simp [Value.ownBlock] at x
        · simp at hr
        · simp at hr
        · simp at hn
        · have x' : k = w1.heap.size := x
          omega
        · simp [Value.ownBlock] at x
      have SN : ∀ i (hi : i < ps.length) k, FP ⟨some a, hb, w1.heap.size, Tg.fresh a b, .slice none 0 0, .slice none 0 0, [], []⟩ k → ¬ FP ps[i] k := by
        intro i hi k hk hk2
        have := (W.prs _ (List.getElem_mem hi)).lt k hk2
        rcases hk with (x | x | ⟨r, hr, _⟩ | ⟨r, hr, _⟩ | ⟨n, hn, _⟩) | (x | x)
        · have x' : k = hb := x
          omega
        · simp [Value.ownBlock] at x
        · simp at hr
        · simp at hr
        · simp at hn
        · have x' : k = w1.heap.size := x
          omega
        · simp [Value.ownBlock] at x
      obtain ⟨i0, hi, hz0, hz1, hz2⟩ := info_parts Try.infoPair
      have HI : Hid (Try.prog.info? 100 = some i0 ∧ i0.zero = some (.agg #[.pointer none, .pointer none, .pointer none, .int .i64 0]) ∧ i0.size = 4 ∧ i0.bytes = 32) := hid ⟨hi, hz0, hz1, hz2⟩
      clear hi hz0 hz1 hz2 hy hyb hp hp2 hbl hfo
      have fin : ∀ n lv' w4, w4.ownsRow 0 100 4 lv' (ps.length + 1) (prsCells ps ++ prVals ⟨some a, hb, w1.heap.size, Tg.fresh a b, .slice none 0 0, .slice none 0 0, [], []⟩) → ((w2.alloc (.cells #[.pointer none, .pointer (some ⟨hb, 0, none⟩), .pointer (some ⟨w1.heap.size, 0, none⟩), .int .i64 a] 100)).drewN n).grownBy w4 lv.ownBlock → Moved ((w2.alloc (.cells #[.pointer none, .pointer (some ⟨hb, 0, none⟩), .pointer (some ⟨w1.heap.size, 0, none⟩), .int .i64 a] 100)).drewN n) lv lv' →
          w4.cell? ⟨wb, 0, none⟩ = some lv ∧ w4.frozen? ⟨wb, 0, none⟩ = false ∧ WI N (B + 1) w0 (w4.setCell ⟨wb, 0, none⟩ lv') wb lv' (ps ++ [⟨some a, hb, w1.heap.size, Tg.fresh a b, .slice none 0 0, .slice none 0 0, [], []⟩]) x ∧ w.heap.size ≤ w4.heap.size := by
        intro n lv' w4 hown hgrow hmv
        have hgs := hgrow.size
        simp at hgs
        obtain ⟨q1, q2, q3⟩ := (W2.grow (by omega) (((Tch.refl _ _).alloc _).drewN n)).add (B' := B + 1) (by omega) (by simp; omega) _ ((PN.alloc _).keep (w' := (w2.alloc (.cells #[.pointer none, .pointer (some ⟨hb, 0, none⟩), .pointer (some ⟨w1.heap.size, 0, none⟩), .int .i64 a] 100)).drewN n) fun _ _ => rfl) SN hown hgrow hmv
        exact ⟨q1, q2, q3, by omega⟩
      have rowx : ∀ n, ((w2.alloc (.cells #[.pointer none, .pointer (some ⟨hb, 0, none⟩), .pointer (some ⟨w1.heap.size, 0, none⟩), .int .i64 a] 100)).drewN n).ownsRow 0 100 4 lv ps.length (prsCells ps) := fun n => (W2.grow (by omega) (((Tch.refl _ _).alloc _).drewN n)).row
      go_wp2_with (go_at_call 60; refine (num_any _ _).mono ?_; rintro e w3 ⟨rfl, rfl⟩)
      clear PN SN W1 W2
      go_region_law (refine step_append_own rfl (.tmp 90) (.tmp 101) 73 rfl 100 i0 _ 4 32 Try.underlying73 HI.out.1 HI.out.2.1 HI.out.2.2.1 HI.out.2.2.2 rfl (by decide) lv ps.length (prsCells ps) (by simp [Act.eval]) (by exact rowx 1) ⟨w3.heap.size, 0, none⟩ 1 1 (prVals ⟨some a, hb, w1.heap.size, Tg.fresh a b, .slice none 0 0, .slice none 0 0, [], []⟩) (by simp [Act.eval]) rfl (by intro j u hj; rw [Addr.add_lit]; simp [World.cell?_alloc_at]; simpa [prVals, px, phl, pnm] using hj) (by intro u hu; simp [prVals, px, phl, pnm] at hu; rcases hu with rfl | rfl | rfl | rfl <;> rfl) (by unfold maxLen; omega) (by omega) ?_; intro lv' w4 hown hgrow hmv; obtain ⟨p1, p2, p3, p4⟩ := fin 1 lv' w4 hown hgrow hmv; obtain ⟨ab', cap', rfl⟩ := ownsRow_form hown (by omega))
      all_goals
        clear fin rowx hown hgrow hmv
        go_wp2
        go_ret
        exact ⟨rfl, _, _, p3, by simp, by simp; omega⟩
    · exact absurd HE.out he2
  · have d2 : w1.cell? ⟨w.heap.size, 2, none⟩ = some (.int .i64 a) := by
      rw [ht.cell (by simp) (fun x => x), World.cell?_alloc_at _ _ _ _ rfl]; rfl
    have d3 : w1.cell? ⟨w.heap.size, 3, none⟩ = some (.int .i64 b) := by
      rw [ht.cell (by simp) (fun x => x), World.cell?_alloc_at _ _ _ _ rfl]; rfl
    have HR := rhall_any a b w1
    have HE := hid he
    clear he HC
    obtain ⟨er, her⟩ : ∃ er, Tg.hallErr a b = er := ⟨_, rfl⟩
    rw [her] at HR ⊢
    have HER := hid her
    clear her
    have hsz := ht.size
    simp at hsz
    have W2 := W1.grow (by simp; omega) ht
    go_wp2_with fail
    refine HR.mono ?_
    rintro e w2 (⟨he2, _⟩ | ⟨he2, rfl, rfl⟩)
    · exact absurd (HER.out.trans he2) HE.out
    · clear HR he2
      go_wp2_with (go_at_call 60; refine (num_any _ _).mono ?_; rintro e w3 ⟨rfl, rfl⟩)
      go_ret
      exact ⟨rfl, lv, ps, W2.mono (by omega), Nat.le_refl _, by omega⟩
end

end Go.Proofs.Ytekjgjhhjlcoaaa
