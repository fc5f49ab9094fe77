import Derived.Test.YtekjgjhhjlcoaaaLawB
namespace Go.Proofs.Ytekjgjhhjlcoaaa
open Go.RowKit Go.Conc

theorem Try.infoPair : (Try.prog.info? 100).map (fun i => (i.zero, i.size, i.bytes)) = some (some (.agg #[.pointer none, .pointer none, .pointer none, .int .i64 0]), 4, 32) := by kernel_rfl

section
variable {N B : Nat} {w0 w w' : World} {wb : Nat} {lv : Value} {ps : List Pr} {x : Ls}

theorem WI.c0 (h : WI N B w0 w wb lv ps x) : w.cell? ⟨wb, 0, none⟩ = some lv := by simp [World.cell?, h.blk]
theorem WI.form (h : WI N B w0 w wb lv ps x) :
    ∃ ao cap, lv = .slice ao ps.length cap ∧ ∀ k (hk : k < ps.length), ∃ ab, ao = some ⟨ab, 0, none⟩ ∧ ∀ f, f < 4 → w.cell? ⟨ab, k * 4 + f, none⟩ = (prVals ps[k])[f]? := by
  rcases h.row.2 with ⟨e, hn⟩ | ⟨ab, cap, cur, e, _, hh, hl, hm, _⟩
  · exact ⟨none, 0, by rw [hn]; exact e, fun k hk => absurd hk (by omega)⟩
  · refine ⟨_, cap, e, fun k hk => ⟨ab, rfl, fun f hf => ?_⟩⟩
    have hx := h.row.cells (g := ab) (by rw [e]; rfl) (k * 4 + f)
    rw [prsCells_at _ _ _ hk hf] at hx
    have he : (prVals ps[k])[f]? = some ((prVals ps[k])[f]'(by simp [prVals]; omega)) := List.getElem?_eq_getElem _
    have hy := hx _ he
    rw [Addr.add_lit] at hy
    rw [he]
    simpa using hy

attribute [local go_sem] alloc_drewN setCell_drewN

set_option maxRecDepth 20000 in
set_option maxHeartbeats 1000000 in
theorem more_any (W : WI N B w0 w wb lv ps x) (hN : N ≤ w.heap.size) (e0 a b c : Int) (hB : B + 1 ≤ 3518437208883) :
    Calls Try.prog 55 #[.pointer (some ⟨wb, 0, none⟩), .agg #[.int .i64 1, .int .i64 e0, .int .i64 a, .int .i64 b, .int .i64 c]] w fun e w' => e = .returned (.bool true) ∧
      ∃ lv' ps', WI N (B + 1) w0 w' wb lv' ps' x ∧ ps.length ≤ ps'.length ∧ (Tg.newErr a b = 0 → ps'.length = ps.length + 1) ∧ w.heap.size ≤ w'.heap.size := by
  have hwl := lt_of_block W.blk
  have W1 := W.grow hN ((Tch.refl _ _).alloc (.cells #[.int .i64 1, .int .i64 e0, .int .i64 a, .int .i64 b, .int .i64 c] 79))
  have HC := new_call a b (w.alloc (.cells #[.int .i64 1, .int .i64 e0, .int .i64 a, .int .i64 b, .int .i64 c] 79))
  have hnum := W.num
  go_enter Try.func55, Try.ntmps55
  go_wp2_with fail
  refine HC.mono ?_
  rintro e w1 (⟨he, rfl, hp, ht⟩ | ⟨he, rfl, rfl⟩)
  · have d2 : w1.cell? ⟨w.heap.size, 2, none⟩ = some (.int .i64 a) := by
      rw [ht.cell (by simp) (fun x => x), World.cell?_alloc_at _ _ _ _ rfl]; rfl
    have d3 : w1.cell? ⟨w.heap.size, 3, none⟩ = some (.int .i64 b) := by
      rw [ht.cell (by simp) (fun x => x), World.cell?_alloc_at _ _ _ _ rfl]; rfl
    have HR := rnew_any a b w1
    have HE := hid he
    clear he HC
    go_wp2_with fail
    refine HR.mono ?_
    rintro e w2 (⟨he2, rfl, hp2, ht2⟩ | ⟨he2, rfl, rfl⟩)
    · clear he2 HR
      have W2 := (W1.grow (by simp; omega) ht).grow (by have := ht.size; simp at this; omega) ht2
      have cw := W2.c0
      have PN : PrOk N (B + 1) w2 ⟨none, w.heap.size + 1, w1.heap.size, Tg.fresh a b, .slice none 0 0, .slice none 0 0, [], []⟩ := by
        refine ⟨⟨?_, hp.rel⟩, hp2, Tg.fresh_ok a b HE.out, Or.inl rfl, ?_, by simp [Tg.fresh], by simp [Tg.fresh]; omega⟩
        · have := hp.ph.tch ht2 (fun _ _ x => x)
          simpa using this
        · have := ht.size
          simp at this
          intro k hk
          rcases hk with (x | x | ⟨r, hr, _⟩ | ⟨r, hr, _⟩ | ⟨n, hn, _⟩) | (x | x)
          · have x' : k = w.heap.size + 1 := x
            omega
          · simp [Value.ownBlock] at x
          · simp at hr
          · simp at hr
          · simp at hn
          · have x' : k = w1.heap.size := x
            omega
          · simp [Value.ownBlock] at x
      have SN : ∀ i (hi : i < ps.length) k, FP ⟨none, w.heap.size + 1, w1.heap.size, Tg.fresh a b, .slice none 0 0, .slice none 0 0, [], []⟩ k → ¬ FP ps[i] k := by
        intro i hi k hk hk2
        have := (W.prs _ (List.getElem_mem hi)).lt k hk2
        have := ht.size
        simp at this
        rcases hk with (x | x | ⟨r, hr, _⟩ | ⟨r, hr, _⟩ | ⟨n, hn, _⟩) | (x | x)
        · have x' : k = w.heap.size + 1 := x
          omega
        · simp [Value.ownBlock] at x
        · simp at hr
        · simp at hr
        · simp at hn
        · have x' : k = w1.heap.size := x
          omega
        · simp [Value.ownBlock] at x
      obtain ⟨i0, hi, hz0, hz1, hz2⟩ := info_parts Try.infoPair
      have HI : Hid (Try.prog.info? 100 = some i0 ∧ i0.zero = some (.agg #[.pointer none, .pointer none, .pointer none, .int .i64 0]) ∧ i0.size = 4 ∧ i0.bytes = 32) := hid ⟨hi, hz0, hz1, hz2⟩
      clear hi hz0 hz1 hz2
      have hsz := ht.size
      have hsz2 := ht2.size
      simp at hsz
      go_wp2_with (first | (go_at_call 60; refine (num_any _ _).mono ?_; rintro e w3 ⟨rfl, rfl⟩) | (at_builtin; refine wpList_append_own2 rfl (.tmp 49) (.tmp 53) 73 rfl 100 i0 _ 4 32 Try.underlying73 HI.out.1 HI.out.2.1 HI.out.2.2.1 HI.out.2.2.2 rfl (by decide) lv ps.length (prsCells ps) rfl ?c1 ⟨w3.heap.size, 0, none⟩ 1 1 (prVals ⟨none, w.heap.size + 1, w1.heap.size, Tg.fresh a b, .slice none 0 0, .slice none 0 0, [], []⟩) rfl rfl ?c2 ?c3 ?c4 ?c5 ?_) | fail)
      case c1 => exact (W2.grow (by omega) ((Tch.refl _ _).alloc _)).row
      case c2 =>
        intro j u hj
        rw [Addr.add_lit, World.cell?_alloc_at _ _ _ _ (by simp)]
        simpa [prVals, px, phl, pnm] using hj
      case c3 => intro u hu; simp [prVals, px, phl, pnm] at hu; rcases hu with rfl | rfl | rfl | rfl <;> rfl
      case c4 => unfold maxLen; omega
      case c5 => omega
      intro lv' w4 hown hgrow hmv
      have hgs := hgrow.size
      simp at hgs
      obtain ⟨q1, q2, q3⟩ := (W2.grow (by omega) ((Tch.refl _ _).alloc _)).add (B' := B + 1) (by omega) (by simp; omega) _ (PN.alloc _) SN hown hgrow hmv
      obtain ⟨ab, cp, rfl⟩ := ownsRow_form hown (by omega)
      clear PN SN HI W1 W2 hown hgrow hmv
      go_wp2
      go_ret
      refine ⟨rfl, _, _, q3, by simp, fun _ => by simp, by simp; omega⟩
    · exact absurd HE.out he2
  · have HR := rnew_any a b (w.alloc (.cells #[.int .i64 1, .int .i64 e0, .int .i64 a, .int .i64 b, .int .i64 c] 79))
    have HE := hid he
    clear he HC
    obtain ⟨er, her⟩ : ∃ er, Tg.newErr a b = er := ⟨_, rfl⟩
    rw [her] at HR ⊢
    have HER := hid her
    clear her
    go_wp2_with fail
    refine HR.mono ?_
    rintro e w2 (⟨he2, rfl, hp2, ht2⟩ | ⟨he2, rfl, rfl⟩)
    · exact absurd (HER.out.trans he2) HE.out
    · clear HR he2
      go_wp2_with (go_at_call 60; refine (num_any _ _).mono ?_; rintro e w3 ⟨rfl, rfl⟩)
      go_ret
      refine ⟨rfl, lv, ps, W1.mono (by omega), Nat.le_refl _, fun x => absurd x HE.out, by simp⟩
end

end Go.Proofs.Ytekjgjhhjlcoaaa
