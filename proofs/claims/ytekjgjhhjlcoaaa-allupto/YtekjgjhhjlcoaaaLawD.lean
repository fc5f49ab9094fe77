import Derived.Test.YtekjgjhhjlcoaaaLawC
import Derived.Deep.DeepCutAuto
import Derived.Deep.RegionHeld3
namespace Go.Proofs.Ytekjgjhhjlcoaaa
open Go.RowKit Go.Conc

section
variable {N B : Nat} {w0 w w' : World} {wb : Nat} {lv : Value} {ps : List Pr} {x : Ls}

def stepV (kd e0 a b c : Int) : Value := .agg #[.int .i64 kd, .int .i64 e0, .int .i64 a, .int .i64 b, .int .i64 c]

attribute [local go_sem] alloc_drewN setCell_drewN

set_option maxRecDepth 20000 in
set_option maxHeartbeats 1000000 in
theorem step_rest (W : WI N B w0 w wb lv ps x) (hN : N ≤ w.heap.size) (hps : 0 < ps.length) (kd e0 a b c : Int) (hk : kd ≤ 5) (hk1 : kd ≠ 1) (he1 : -9223372036854775808 ≤ e0) (he2 : e0 ≤ 9223372036854775807) (B' : Nat) (hBB : B ≤ B') (hB2 : kd = 2 → B' = B + 1) (hB : B' ≤ 3518437208883) :
    Calls Try.prog 32 #[.pointer (some ⟨wb, 0, none⟩), stepV kd e0 a b c] w fun e w' => e = .returned (.bool true) ∧
      ∃ ps', WI N B' w0 w' wb lv ps' x ∧ ps.length = ps'.length ∧ w.heap.size ≤ w'.heap.size := by
  obtain ⟨ao, cap, rfl, hcells⟩ := W.form
  obtain ⟨ab, rfl, _⟩ := hcells 0 hps
  have hc : ∀ k (hk : k < ps.length), w.cell? ⟨ab, k * 4, none⟩ = some (.pointer (px ps[k])) ∧ w.cell? ⟨ab, k * 4 + 1, none⟩ = some (.pointer (phl ps[k])) ∧ w.cell? ⟨ab, k * 4 + 2, none⟩ = some (.pointer (some ⟨ps[k].b, 0, none⟩)) ∧ w.cell? ⟨ab, k * 4 + 3, none⟩ = some (.int .i64 (pnm ps[k])) := by
    intro k hk
    obtain ⟨ab2, e, hf⟩ := hcells k hk
    simp at e
    subst e
    exact ⟨hf 0 (by omega), hf 1 (by omega), hf 2 (by omega), hf 3 (by omega)⟩
  have cw := W.c0
  have hnum := W.num
  have hwl := lt_of_block W.blk
  have habl : ab < w.heap.size := by
    obtain ⟨cur, hh⟩ := W.rowBlk (k := ab) rfl
    exact lt_of_block hh
  have k1 : (kd == 1) = false := by simp [hk1]
  have k10 : (kd == 10) = false := by simp; omega
  obtain ⟨r, hr, HPK⟩ := pick_one e0 ps.length hps (by omega) he1 he2
  obtain ⟨x0, x1, x2, x3⟩ := hc r hr
  clear hcells hc hk1
  unfold stepV
  go_enter Try.func32, Try.ntmps32
  go_upto_region 3 with fail
  go_cut [0, 3, 5] (fun s0 s3 s5 wc => s0 = .pointer (some ⟨wb, 0, none⟩) ∧ s3 = .pointer (some ⟨w.heap.size, 0, none⟩) ∧ s5 = .pointer (some ⟨w.heap.size + 1, 0, none⟩) ∧ ∃ n, wc = ((w.alloc (.cells #[.int .i64 kd, .int .i64 e0, .int .i64 a, .int .i64 b, .int .i64 c] 79)).alloc (.cells #[.pointer (px ps[r]), .pointer (phl ps[r]), .pointer (some ⟨ps[r].b, 0, none⟩), .int .i64 (pnm ps[r])] 100)).drewN n)
  case first =>
    go_region_held3 (fun w' => w'.cell? ⟨wb, 0, none⟩ = some (.slice (some ⟨ab, 0, none⟩) ps.length cap) ∧ w'.cell? ⟨w.heap.size, 1, none⟩ = some (.int .i64 e0) ∧ w'.cell? ⟨ab, r * 4, none⟩ = some (.pointer (px ps[r])) ∧ w'.cell? ⟨ab, r * 4 + 1, none⟩ = some (.pointer (phl ps[r])) ∧ w'.cell? ⟨ab, r * 4 + 2, none⟩ = some (.pointer (some ⟨ps[r].b, 0, none⟩)) ∧ w'.cell? ⟨ab, r * 4 + 3, none⟩ = some (.int .i64 (pnm ps[r]))) (go_keep) (first | (go_at_call 56; refine (HPK _).mono ?_; rintro e w' ⟨rfl, rfl⟩))
    all_goals
      go_wp2_with fail
      go_meet
      case rel => exact ⟨rfl, rfl, rfl, 1, rfl⟩
  case rest =>
    obtain ⟨rfl, rfl, rfl, n, rfl⟩ := hcut
    have TG : Tch (fun _ => False) w (((w.alloc (.cells #[.int .i64 kd, .int .i64 e0, .int .i64 a, .int .i64 b, .int .i64 c] 79)).alloc (.cells #[.pointer (px ps[r]), .pointer (phl ps[r]), .pointer (some ⟨ps[r].b, 0, none⟩), .int .i64 (pnm ps[r])] 100)).drewN n) := (((Tch.refl _ _).alloc _).alloc _).drewN _
    have WG := W.grow hN TG
    have PO := WG.prs _ (List.getElem_mem hr)
    have hNG : N ≤ (((w.alloc (.cells #[.int .i64 kd, .int .i64 e0, .int .i64 a, .int .i64 b, .int .i64 c] 79)).alloc (.cells #[.pointer (px ps[r]), .pointer (phl ps[r]), .pointer (some ⟨ps[r].b, 0, none⟩), .int .i64 (pnm ps[r])] 100)).drewN n).heap.size := by simp; omega
    have fin : ∀ {w' : World} {p' : Pr}, Chg N B' (((w.alloc (.cells #[.int .i64 kd, .int .i64 e0, .int .i64 a, .int .i64 b, .int .i64 c] 79)).alloc (.cells #[.pointer (px ps[r]), .pointer (phl ps[r]), .pointer (some ⟨ps[r].b, 0, none⟩), .int .i64 (pnm ps[r])] 100)).drewN n) ps[r] w' p' →
        ∃ ps', WI N B' w0 w' wb (.slice (some ⟨ab, 0, none⟩) ps.length cap) ps' x ∧ ps.length = ps'.length ∧ w.heap.size ≤ w'.heap.size := by
      intro w' p' C
      refine ⟨_, WG.upd (by omega) hNG r hr p' C.gb C.b C.rd C.tch C.ok C.sub, by simp, ?_⟩
      have := C.tch.size
      simp at this
      omega
    have nb : ∀ k, w.heap.size ≤ k → ¬ PS ps[r].gb ps[r].tv ps[r].rs ps[r].ns k := fun k hk x => by
      have := (W.prs _ (List.getElem_mem hr)).pg.ph.lt k x; omega
    have hlen := PO.len
    have htime := PO.time
    clear W x0 x1 x2 x3 cw HPK
    by_cases k2 : kd = 2
    · subst k2
      obtain rfl := hB2 rfl
      have HA := asks_any PO hNG e0 a b c hB
      unfold pv at HA
      go_wp2_with (go_at_call 57; refine HA.mono ?_; rintro e w' ⟨rfl, p', C⟩)
      go_ret
      exact ⟨rfl, fin C⟩
    · have k2' : (kd == 2) = false := by simp [k2]
      have k11 : (kd == 11) = false := by simp; omega
      have k12 : (kd == 12) = false := by simp; omega
      by_cases k3 : kd = 3
      · subst k3
        have HA := pstate_any PO a
        unfold pv at HA
        obtain ⟨s1, hs1⟩ : ∃ x, (Tg.stateOf ps[r].g.all a).1 = x := ⟨_, rfl⟩
        obtain ⟨s2, hs2⟩ : ∃ x, (Tg.stateOf ps[r].g.all a).2 = x := ⟨_, rfl⟩
        rw [hs1, hs2] at HA
        go_wp2_with fail
        refine HA.mono ?_
        rintro e w1 ⟨rfl, L⟩
        have cb : w1.cell? ⟨w.heap.size + 1, 2, none⟩ = some (.pointer (some ⟨ps[r].b, 0, none⟩)) := by
          rw [L.tch.cell (by simp) (nb _ (by omega)), World.cell?_drewN, World.cell?_alloc_at _ _ _ _ (by simp)]; rfl
        have ca : w1.cell? ⟨w.heap.size, 2, none⟩ = some (.int .i64 a) := by
          rw [L.tch.cell (by simp; omega) (nb _ (by omega)), World.cell?_drewN, World.cell?_alloc_past _ _ _ (by simp), World.cell?_alloc_at _ _ _ _ rfl]; rfl
        have HR := rstate_any ps[r].b ps[r].g ps[r].rv a w1 (PO.rgKeep L.tch) (by omega)
        rw [hs1, hs2] at HR
        clear hs1 hs2 HA
        go_wp2_with (first | (go_at_call 59; refine HR.mono ?_; rintro e w2 ⟨rfl, rfl⟩) | (go_at_call 60; refine (num_any _ _).mono ?_; rintro e w3 ⟨rfl, rfl⟩))
        go_ret
        exact ⟨rfl, fin (PO.both hNG L (PO.rgKeep L.tch) (Tch.refl _ _) (Moved.same _ _) PO.ok PO.quiet (by omega) (by omega))⟩
      · have k3' : (kd == 3) = false := by simp [k3]
        by_cases k4 : kd = 4
        · subst k4
          have HA := pgive_any PO a (by omega)
          unfold pv at HA
          obtain ⟨s1, hs1⟩ : ∃ x, (Tg.change ps[r].g a 2 6).2 = x := ⟨_, rfl⟩
          rw [hs1] at HA
          go_wp2_with fail
          refine HA.mono ?_
          rintro e w1 ⟨rfl, rs', ns', L⟩
          have cb : w1.cell? ⟨w.heap.size + 1, 2, none⟩ = some (.pointer (some ⟨ps[r].b, 0, none⟩)) := by
            rw [L.tch.cell (by simp) (nb _ (by omega)), World.cell?_drewN, World.cell?_alloc_at _ _ _ _ (by simp)]; rfl
          have ca : w1.cell? ⟨w.heap.size, 2, none⟩ = some (.int .i64 a) := by
            rw [L.tch.cell (by simp; omega) (nb _ (by omega)), World.cell?_drewN, World.cell?_alloc_past _ _ _ (by simp), World.cell?_alloc_at _ _ _ _ rfl]; rfl
          have HR := rgive_any ps[r].b ps[r].g ps[r].rv a w1 (PO.rgKeep L.tch) PO.ok (by omega)
          rw [hs1] at HR
          clear hs1 HA
          go_wp2_with (first | (go_at_call 62; refine HR.mono ?_; rintro e w2 ⟨rfl, hr2, ht2⟩) | (go_at_call 60; refine (num_any _ _).mono ?_; rintro e w3 ⟨rfl, rfl⟩))
          go_ret
          exact ⟨rfl, fin (PO.both hNG L hr2 ht2 (Moved.same _ _) (Tg.change_ok _ _ _ _ PO.ok (by omega) (by omega)) (change_quiet _ PO.quiet _ _ _) (by rw [Tg.change_len]; omega) (by rw [change_time]; omega))⟩
        · have k4' : (kd == 4) = false := by simp [k4]
          by_cases k5 : kd = 5
          · subst k5
            have HA := pheld_any PO
            unfold pv at HA
            obtain ⟨s1, hs1⟩ : ∃ x, Tg.held ps[r].g.all = x := ⟨_, rfl⟩
            rw [hs1] at HA
            go_wp2_with fail
            refine HA.mono ?_
            rintro e w1 ⟨rfl, L⟩
            have cb : w1.cell? ⟨w.heap.size + 1, 2, none⟩ = some (.pointer (some ⟨ps[r].b, 0, none⟩)) := by
              rw [L.tch.cell (by simp) (nb _ (by omega)), World.cell?_drewN, World.cell?_alloc_at _ _ _ _ (by simp)]; rfl
            have HR := rheld_any ps[r].b ps[r].g ps[r].rv w1 (PO.rgKeep L.tch) PO.ok.ok (by omega)
            rw [hs1] at HR
            clear hs1 HA
            go_wp2_with (first | (go_at_call 64; refine HR.mono ?_; rintro e w2 ⟨rfl, rfl⟩))
            go_ret
            exact ⟨rfl, fin (PO.both hNG L (PO.rgKeep L.tch) (Tch.refl _ _) (Moved.same _ _) PO.ok PO.quiet (by omega) (by omega))⟩
          · have k5' : (kd == 5) = false := by simp [k5]
            have k6 : (kd == 6) = false := by simp; omega
            have k7 : (kd == 7) = false := by simp; omega
            have k8 : (kd == 8) = false := by simp; omega
            have k9 : (kd == 9) = false := by simp; omega
            clear k2 k3 k4 k5
            go_wp2
            go_ret
            refine ⟨rfl, ps, WG.mono (by omega), rfl, by simp; omega⟩
end

end Go.Proofs.Ytekjgjhhjlcoaaa
