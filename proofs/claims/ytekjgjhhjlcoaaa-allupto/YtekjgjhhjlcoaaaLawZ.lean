import Derived.Test.YtekjgjhhjlcoaaaLawY
import Derived.Test.YtekjgjhhjlcoaaaLawV
namespace Go.Proofs.Ytekjgjhhjlcoaaa
open Go.RowKit Go.Conc

section
variable {N B : Nat} {w0 w w' : World} {wb : Nat} {lv : Value} {ps : List Pr} {x : Ls} {p : Pr}

attribute [local go_sem] alloc_drewN setCell_drewN

set_option maxRecDepth 20000 in
set_option maxHeartbeats 1000000 in
theorem step_hall (H : GateHall) (W : WI N B w0 w wb lv ps x) (hN : N ≤ w.heap.size) (hps : 0 < ps.length) (kd e0 a b c : Int) (hk : kd = 11 ∨ kd = 12) (he1 : -9223372036854775808 ≤ e0) (he2 : e0 ≤ 9223372036854775807) (hB : B + 1 ≤ 3518437208883) :
    Calls Try.prog 32 #[.pointer (some ⟨wb, 0, none⟩), stepV kd e0 a b c] w fun e w' => e = .returned (.bool true) ∧
      ∃ ps', WI N (B + 1) w0 w' wb lv ps' x ∧ ps.length = ps'.length ∧ w.heap.size ≤ w'.heap.size := by
  obtain ⟨ao, cap, rfl, hcells⟩ := W.form
  obtain ⟨ab, rfl, _⟩ := hcells 0 hps
  have hc : ∀ k (hk : k < ps.length), w.cell? ⟨ab, k * 4, none⟩ = some (.pointer (px ps[k])) ∧ w.cell? ⟨ab, k * 4 + 1, none⟩ = some (.pointer (phl ps[k])) ∧ w.cell? ⟨ab, k * 4 + 2, none⟩ = some (.pointer (some ⟨ps[k].b, 0, none⟩)) ∧ w.cell? ⟨ab, k * 4 + 3, none⟩ = some (.int .i64 (pnm ps[k])) := by
    intro k hk
    obtain ⟨ab2, e, hf⟩ := hcells k hk
    simp at e
    subst e
    exact ⟨hf 0 (by omega), hf 1 (by omega), hf 2 (by omega), hf 3 (by omega)⟩
  have cw := W.c0
  have hnum := W.num
  have hwl := lt_of_block W.blk
  have habl : ab < w.heap.size := by
    obtain ⟨cur, hh⟩ := W.rowBlk (k := ab) rfl
    exact lt_of_block hh
  have k1 : (kd == 1) = false := by simp; omega
  have k10 : (kd == 10) = false := by simp; omega
  obtain ⟨r, hr, HPK⟩ := pick_one e0 ps.length hps (by omega) he1 he2
  obtain ⟨x0, x1, x2, x3⟩ := hc r hr
  clear hcells hc
  unfold stepV
  go_enter Try.func32, Try.ntmps32
  go_upto_region 3 with fail
  go_cut [0, 3, 5] (fun s0 s3 s5 wc => s0 = .pointer (some ⟨wb, 0, none⟩) ∧ s3 = .pointer (some ⟨w.heap.size, 0, none⟩) ∧ s5 = .pointer (some ⟨w.heap.size + 1, 0, none⟩) ∧ ∃ n, wc = ((w.alloc (.cells #[.int .i64 kd, .int .i64 e0, .int .i64 a, .int .i64 b, .int .i64 c] 79)).alloc (.cells #[.pointer (px ps[r]), .pointer (phl ps[r]), .pointer (some ⟨ps[r].b, 0, none⟩), .int .i64 (pnm ps[r])] 100)).drewN n)
  case first =>
    go_region_held3 (fun w' => w'.cell? ⟨wb, 0, none⟩ = some (.slice (some ⟨ab, 0, none⟩) ps.length cap) ∧ w'.cell? ⟨w.heap.size, 1, none⟩ = some (.int .i64 e0) ∧ w'.cell? ⟨ab, r * 4, none⟩ = some (.pointer (px ps[r])) ∧ w'.cell? ⟨ab, r * 4 + 1, none⟩ = some (.pointer (phl ps[r])) ∧ w'.cell? ⟨ab, r * 4 + 2, none⟩ = some (.pointer (some ⟨ps[r].b, 0, none⟩)) ∧ w'.cell? ⟨ab, r * 4 + 3, none⟩ = some (.int .i64 (pnm ps[r]))) (go_keep) (first | (go_at_call 56; refine (HPK _).mono ?_; rintro e w' ⟨rfl, rfl⟩))
    all_goals
      go_wp2_with fail
      go_meet
      case rel => exact ⟨rfl, rfl, rfl, 1, rfl⟩
  case rest =>
    obtain ⟨rfl, rfl, rfl, n, rfl⟩ := hcut
    have TG : Tch (fun _ => False) w (((w.alloc (.cells #[.int .i64 kd, .int .i64 e0, .int .i64 a, .int .i64 b, .int .i64 c] 79)).alloc (.cells #[.pointer (px ps[r]), .pointer (phl ps[r]), .pointer (some ⟨ps[r].b, 0, none⟩), .int .i64 (pnm ps[r])] 100)).drewN n) := (((Tch.refl _ _).alloc _).alloc _).drewN _
    have WG := W.grow hN TG
    have PO := WG.prs _ (List.getElem_mem hr)
    have hNG : N ≤ (((w.alloc (.cells #[.int .i64 kd, .int .i64 e0, .int .i64 a, .int .i64 b, .int .i64 c] 79)).alloc (.cells #[.pointer (px ps[r]), .pointer (phl ps[r]), .pointer (some ⟨ps[r].b, 0, none⟩), .int .i64 (pnm ps[r])] 100)).drewN n).heap.size := by simp; omega
    have fin : ∀ {w' : World} {p' : Pr}, Chg N (B + 1) (((w.alloc (.cells #[.int .i64 kd, .int .i64 e0, .int .i64 a, .int .i64 b, .int .i64 c] 79)).alloc (.cells #[.pointer (px ps[r]), .pointer (phl ps[r]), .pointer (some ⟨ps[r].b, 0, none⟩), .int .i64 (pnm ps[r])] 100)).drewN n) ps[r] w' p' →
        ∃ ps', WI N (B + 1) w0 w' wb (.slice (some ⟨ab, 0, none⟩) ps.length cap) ps' x ∧ ps.length = ps'.length ∧ w.heap.size ≤ w'.heap.size := by
      intro w' p' C
      refine ⟨_, WG.upd (B' := B + 1) (by omega) hNG r hr p' C.gb C.b C.rd C.tch C.ok C.sub, by simp, ?_⟩
      have := C.tch.size
      simp at this
      omega
    have nb : ∀ k, w.heap.size ≤ k → ¬ PS ps[r].gb ps[r].tv ps[r].rs ps[r].ns k := fun k hk x => by
      have := (W.prs _ (List.getElem_mem hr)).pg.ph.lt k x; omega
    have k2' : (kd == 2) = false := by simp; omega
    have HA := asks_hall H PO hNG kd e0 a b c hk hB
    clear H W x0 x1 x2 x3 cw HPK k1 k10
    unfold pv at HA
    rcases hk with rfl | rfl
    all_goals
      go_wp2_with (go_at_call 57; refine HA.mono ?_; rintro e w' ⟨rfl, p', C⟩)
      go_ret
      exact ⟨rfl, fin C⟩

set_option maxRecDepth 20000 in
set_option maxHeartbeats 400000 in
theorem step_newHall (H : GateHall) (W : WI N B w0 w wb lv ps x) (hN : N ≤ w.heap.size) (e0 a b c : Int) (hB : B + 1 ≤ 3518437208883) :
    Calls Try.prog 32 #[.pointer (some ⟨wb, 0, none⟩), stepV 10 e0 a b c] w fun e w' => e = .returned (.bool true) ∧
      ∃ lv' ps', WI N (B + 1) w0 w' wb lv' ps' x ∧ ps.length ≤ ps'.length ∧ w.heap.size ≤ w'.heap.size := by
  have TG : Tch (fun _ => False) w (w.alloc (.cells #[.int .i64 10, .int .i64 e0, .int .i64 a, .int .i64 b, .int .i64 c] 79)) := (Tch.refl _ _).alloc _
  have WG := W.grow hN TG
  have HM := more_hall H WG (by simp; omega) e0 a b c hB
  clear H
  unfold stepV
  go_enter Try.func32, Try.ntmps32
  go_wp2_with (go_at_call 55; refine HM.mono ?_; rintro e w1 ⟨rfl, lv', ps', W', h1, h3⟩)
  go_ret
  exact ⟨rfl, lv', ps', W', h1, by simp at h3; omega⟩

end

/-- The play of all calls: the invariant is that of the first nine. -/
theorem play_all (M : GateMore) (H : GateHall) (w : World) : Play 1000000000000 12 w (TurnI w) where
  c0 := (play_turns M w).c0
  bel := (play_turns M w).bel
  num := (play_turns M w).num
  mono := (play_turns M w).mono
  first := (play_turns M w).first
  step := by
    rintro B n w' kd e0 a b c I hn hk he1 he2 hB
    by_cases h9 : kd ≤ 9
    · exact (play_turns M w).step kd e0 a b c I hn h9 he1 he2 hB
    · obtain ⟨lv, ps, x, W, rfl, hz⟩ := I
      by_cases h10 : kd = 10
      · subst h10
        refine (step_newHall H W hz e0 a b c (by omega)).mono ?_
        rintro e w1 ⟨rfl, lv1, ps1, W1, hl, hz1⟩
        exact ⟨rfl, ps1.length, hl, lv1, ps1, x, W1, rfl, by omega⟩
      · refine (step_hall H W hz hn kd e0 a b c (by omega) he1 he2 (by omega)).mono ?_
        rintro e w1 ⟨rfl, ps1, W1, hl, hz1⟩
        exact ⟨rfl, ps1.length, by omega, lv, ps1, x, W1, rfl, by omega⟩
  look := (play_turns M w).look
  looks := (play_turns M w).looks

theorem plays_all (M : GateMore) (H : GateHall) (sv : Value) (ss : List (Int × Int × Int × Int × Int)) (w : World) (S : Script w w.heap.size sv ss) (hss : ss.length + 3 ≤ 1000000000000) :
    Calls Try.prog 12 #[sv, .int .i64 12] w fun e w' => e = .returned (.bool true) ∧ Below w.heap.size w w' :=
  plays_gen sv ss w S 12 (by omega) _ 1000000000000 hss (play_all M H w)

end Go.Proofs.Ytekjgjhhjlcoaaa
