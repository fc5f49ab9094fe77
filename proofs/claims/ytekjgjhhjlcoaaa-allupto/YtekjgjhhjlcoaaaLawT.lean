import Derived.Test.YtekjgjhhjlcoaaaLawD
namespace Go.Proofs.Ytekjgjhhjlcoaaa
open Go.RowKit Go.Conc

/-- What the calls of the second stage do, as the law takes them. -/
structure GateMore : Prop where
  cancel : ∀ {rd : Option Int} {w : World} {gb : Nat} {g : Tg.Gt} {tv : Value} {rs : List Rc} {ns : List Nd}, PG rd w gb g tv rs ns → Tg.GtOk g → ∀ n : Int, g.all.length ≤ 4398046511104 →
    Calls Try.prog 30 #[.pointer (some ⟨gb, 0, none⟩), .int .i64 n] w fun e w' => e = .returned (.int .i64 (Tg.change g n 1 5).2) ∧ ∃ tv' rs' ns', Left1 rd w gb tv rs ns w' (Tg.change g n 1 5).1 tv' rs' ns'
  tick : ∀ {rd : Option Int} {w : World} {gb : Nat} {g : Tg.Gt} {tv : Value} {rs : List Rc} {ns : List Nd}, PG rd w gb g tv rs ns → Tg.GtOk g → g.all.length ≤ 4398046511104 → g.time ≤ 4611686018427387904 →
    Calls Try.prog 22 #[.pointer (some ⟨gb, 0, none⟩)] w fun e w' => e = .returned (.tuple #[]) ∧ ∃ tv' rs' ns', Left1 rd w gb tv rs ns w' (Tg.tick g) tv' rs' ns'
  resize : ∀ {rd : Option Int} {w : World} {gb : Nat} {g : Tg.Gt} {tv : Value} {rs : List Rc} {ns : List Nd}, PG rd w gb g tv rs ns → Tg.GtOk g → ∀ n : Int, g.all.length ≤ 4398046511104 →
    Calls Try.prog 24 #[.pointer (some ⟨gb, 0, none⟩), .int .i64 n] w fun e w' => e = .returned (.int .i64 (Tg.resize g n).2) ∧ ∃ tv' rs' ns', Left1 rd w gb tv rs ns w' (Tg.resize g n).1 tv' rs' ns'
  queue : ∀ {rd : Option Int} {w : World} {gb : Nat} {g : Tg.Gt} {tv : Value} {rs : List Rc} {ns : List Nd}, PG rd w gb g tv rs ns → Tg.GtOk g → g.all.length ≤ 4398046511104 →
    Calls Try.prog 18 #[.pointer (some ⟨gb, 0, none⟩)] w fun e w' => ∃ v, e = .returned v ∧ w'.ownsRow 0 3 1 v (Tg.queue g.pass g.all).length (ivs (Tg.queue g.pass g.all)) ∧ NewRow w v ∧ (∀ k, v.ownBlock = some k → ¬ PS gb tv rs ns k) ∧ Left1 rd w gb tv rs ns w' g tv rs ns

section
variable {N B : Nat} {w0 w w' : World} {wb : Nat} {lv : Value} {ps : List Pr} {x : Ls} {p : Pr}

set_option maxHeartbeats 400000 in
theorem pcancel_any (M : GateMore) (h : PrOk N B w p) (n : Int) (hB : B ≤ 4398046511104) :
    Calls Try.prog 65 #[pv p, .int .i64 n] w fun e w' => e = .returned (.int .i64 (Tg.change p.g n 1 5).2) ∧ ∃ tv' rs' ns', Left1 p.rd w p.gb p.tv p.rs p.ns w' (Tg.change p.g n 1 5).1 tv' rs' ns' := by
  have HC := M.cancel (h.pg.alloc (.cells #[.pointer (px p), .pointer (phl p), .pointer (some ⟨p.b, 0, none⟩), .int .i64 (pnm p)] 100)) h.ok n (by have := h.len; omega)
  unfold pv
  clear M
  cases hrd : p.rd with
  | none =>
    rw [px_none hrd, phl_none hrd] at HC ⊢
    rw [hrd] at HC
    clear hrd
    go_enter Try.func65, Try.ntmps65
    go_wp2_with (go_at_call 30; refine HC.mono ?_; rintro e w' ⟨rfl, tv', rs', ns', L⟩)
    go_ret
    exact ⟨rfl, tv', rs', ns', L.grow ((Tch.refl _ _).alloc _)⟩
  | some nn =>
    rw [px_some hrd, phl_some hrd] at HC ⊢
    rw [hrd] at HC
    clear hrd
    go_enter Try.func65, Try.ntmps65
    go_wp2_with (go_at_call 30; refine HC.mono ?_; rintro e w' ⟨rfl, tv', rs', ns', L⟩)
    go_ret
    exact ⟨rfl, tv', rs', ns', L.grow ((Tch.refl _ _).alloc _)⟩

set_option maxHeartbeats 400000 in
theorem ptick_any (M : GateMore) (h : PrOk N B w p) (hB : B ≤ 4398046511104) :
    Calls Try.prog 67 #[pv p] w fun e w' => e = .returned (.tuple #[]) ∧ ∃ tv' rs' ns', Left1 p.rd w p.gb p.tv p.rs p.ns w' (Tg.tick p.g) tv' rs' ns' := by
  have HC := M.tick (h.pg.alloc (.cells #[.pointer (px p), .pointer (phl p), .pointer (some ⟨p.b, 0, none⟩), .int .i64 (pnm p)] 100)) h.ok (by have := h.len; omega) (by have := h.time; omega)
  unfold pv
  clear M
  cases hrd : p.rd with
  | none =>
    rw [px_none hrd, phl_none hrd] at HC ⊢
    rw [hrd] at HC
    clear hrd
    go_enter Try.func67, Try.ntmps67
    go_wp2_with (go_at_call 22; refine HC.mono ?_; rintro e w' ⟨rfl, tv', rs', ns', L⟩)
    go_end0
    exact ⟨rfl, tv', rs', ns', L.grow ((Tch.refl _ _).alloc _)⟩
  | some nn =>
    rw [px_some hrd, phl_some hrd] at HC ⊢
    rw [hrd] at HC
    clear hrd
    go_enter Try.func67, Try.ntmps67
    go_wp2_with (go_at_call 22; refine HC.mono ?_; rintro e w' ⟨rfl, tv', rs', ns', L⟩)
    go_end0
    exact ⟨rfl, tv', rs', ns', L.grow ((Tch.refl _ _).alloc _)⟩

set_option maxHeartbeats 400000 in
theorem presize_any (M : GateMore) (h : PrOk N B w p) (n : Int) (hB : B ≤ 4398046511104) :
    Calls Try.prog 69 #[pv p, .int .i64 n] w fun e w' => e = .returned (.int .i64 (Tg.resize p.g n).2) ∧ ∃ tv' rs' ns', Left1 p.rd w p.gb p.tv p.rs p.ns w' (Tg.resize p.g n).1 tv' rs' ns' := by
  have HC := M.resize (h.pg.alloc (.cells #[.pointer (px p), .pointer (phl p), .pointer (some ⟨p.b, 0, none⟩), .int .i64 (pnm p)] 100)) h.ok n (by have := h.len; omega)
  unfold pv
  clear M
  cases hrd : p.rd with
  | none =>
    rw [px_none hrd, phl_none hrd] at HC ⊢
    rw [hrd] at HC
    clear hrd
    go_enter Try.func69, Try.ntmps69
    go_wp2_with (go_at_call 24; refine HC.mono ?_; rintro e w' ⟨rfl, tv', rs', ns', L⟩)
    go_ret
    exact ⟨rfl, tv', rs', ns', L.grow ((Tch.refl _ _).alloc _)⟩
  | some nn =>
    rw [px_some hrd, phl_some hrd] at HC ⊢
    rw [hrd] at HC
    clear hrd
    go_enter Try.func69, Try.ntmps69
    go_wp2_with (go_at_call 24; refine HC.mono ?_; rintro e w' ⟨rfl, tv', rs', ns', L⟩)
    go_ret
    exact ⟨rfl, tv', rs', ns', L.grow ((Tch.refl _ _).alloc _)⟩

set_option maxHeartbeats 400000 in
theorem pqueue_any (M : GateMore) (h : PrOk N B w p) (hB : B ≤ 4398046511104) :
    Calls Try.prog 71 #[pv p] w fun e w' => ∃ v, e = .returned v ∧ w'.ownsRow 0 3 1 v (Tg.queue p.g.pass p.g.all).length (ivs (Tg.queue p.g.pass p.g.all)) ∧ NewRow w v ∧ Left1 p.rd w p.gb p.tv p.rs p.ns w' p.g p.tv p.rs p.ns := by
  have HC := M.queue (h.pg.alloc (.cells #[.pointer (px p), .pointer (phl p), .pointer (some ⟨p.b, 0, none⟩), .int .i64 (pnm p)] 100)) h.ok (by have := h.len; omega)
  unfold pv
  clear M
  cases hrd : p.rd with
  | none =>
    rw [px_none hrd, phl_none hrd] at HC ⊢
    rw [hrd] at HC
    clear hrd
    go_enter Try.func71, Try.ntmps71
    go_wp2_with fail
    refine HC.mono ?_
    rintro e w' ⟨v, rfl, ho, hn, _, L⟩
    obtain ⟨ao, cap, rfl⟩ := row_form ho
    go_wp2
    go_ret
    exact ⟨_, rfl, ho, fun k hk => by have := hn k hk; simp at this; omega, L.grow ((Tch.refl _ _).alloc _)⟩
  | some nn =>
    rw [px_some hrd, phl_some hrd] at HC ⊢
    rw [hrd] at HC
    clear hrd
    go_enter Try.func71, Try.ntmps71
    go_wp2_with fail
    refine HC.mono ?_
    rintro e w' ⟨v, rfl, ho, hn, _, L⟩
    obtain ⟨ao, cap, rfl⟩ := row_form ho
    go_wp2
    go_ret
    exact ⟨_, rfl, ho, fun k hk => by have := hn k hk; simp at this; omega, L.grow ((Tch.refl _ _).alloc _)⟩

theorem tick_len (g : Tg.Gt) : (Tg.tick g).all.length = g.all.length := by simp [Tg.tick, Tg.letIn_length]
theorem resize_len (g : Tg.Gt) (n : Int) : (Tg.resize g n).1.all.length = g.all.length := by
  unfold Tg.resize; split
  · simp [Tg.letIn_length]
  · rfl
theorem resize_time (g : Tg.Gt) (n : Int) : (Tg.resize g n).1.time = g.time := by unfold Tg.resize; split <;> rfl
theorem resize_quiet (g : Tg.Gt) (h : Tg.Quiet g.room g.pass g.all) (n : Int) : Tg.Quiet (Tg.resize g n).1.room (Tg.resize g n).1.pass (Tg.resize g n).1.all := by
  unfold Tg.resize; split
  · exact Tg.letIn_quiet _ _ _
  · exact h

attribute [local go_sem] alloc_drewN setCell_drewN

set_option maxRecDepth 20000 in
set_option maxHeartbeats 1000000 in
theorem step_more (M : GateMore) (W : WI N B w0 w wb lv ps x) (hN : N ≤ w.heap.size) (hps : 0 < ps.length) (kd e0 a b c : Int) (hk6 : 6 ≤ kd) (hk : kd ≤ 8) (he1 : -9223372036854775808 ≤ e0) (he2 : e0 ≤ 9223372036854775807) (hB : B + 1 ≤ 3518437208883) :
    Calls Try.prog 32 #[.pointer (some ⟨wb, 0, none⟩), stepV kd e0 a b c] w fun e w' => e = .returned (.bool true) ∧
      ∃ ps', WI N (B + 1) w0 w' wb lv ps' x ∧ ps.length = ps'.length ∧ w.heap.size ≤ w'.heap.size := by
  obtain ⟨ao, cap, rfl, hcells⟩ := W.form
  obtain ⟨ab, rfl, _⟩ := hcells 0 hps
  have hc : ∀ k (hk : k < ps.length), w.cell? ⟨ab, k * 4, none⟩ = some (.pointer (px ps[k])) ∧ w.cell? ⟨ab, k * 4 + 1, none⟩ = some (.pointer (phl ps[k])) ∧ w.cell? ⟨ab, k * 4 + 2, none⟩ = some (.pointer (some ⟨ps[k].b, 0, none⟩)) ∧ w.cell? ⟨ab, k * 4 + 3, none⟩ = some (.int .i64 (pnm ps[k])) := by
    intro k hk
    obtain ⟨ab2, e, hf⟩ := hcells k hk
    simp at e
    subst e
    exact ⟨hf 0 (by omega), hf 1 (by omega), hf 2 (by omega), hf 3 (by omega)⟩
  have cw := W.c0
  have hnum := W.num
  have hwl := lt_of_block W.blk
  have habl : ab < w.heap.size := by
    obtain ⟨cur, hh⟩ := W.rowBlk (k := ab) rfl
    exact lt_of_block hh
  have k1 : (kd == 1) = false := by simp; omega
  have k10 : (kd == 10) = false := by simp; omega
  obtain ⟨r, hr, HPK⟩ := pick_one e0 ps.length hps (by omega) he1 he2
  obtain ⟨x0, x1, x2, x3⟩ := hc r hr
  clear hcells hc
  unfold stepV
  go_enter Try.func32, Try.ntmps32
  go_upto_region 3 with fail
  go_cut [0, 3, 5] (fun s0 s3 s5 wc => s0 = .pointer (some ⟨wb, 0, none⟩) ∧ s3 = .pointer (some ⟨w.heap.size, 0, none⟩) ∧ s5 = .pointer (some ⟨w.heap.size + 1, 0, none⟩) ∧ ∃ n, wc = ((w.alloc (.cells #[.int .i64 kd, .int .i64 e0, .int .i64 a, .int .i64 b, .int .i64 c] 79)).alloc (.cells #[.pointer (px ps[r]), .pointer (phl ps[r]), .pointer (some ⟨ps[r].b, 0, none⟩), .int .i64 (pnm ps[r])] 100)).drewN n)
  case first =>
    go_region_held3 (fun w' => w'.cell? ⟨wb, 0, none⟩ = some (.slice (some ⟨ab, 0, none⟩) ps.length cap) ∧ w'.cell? ⟨w.heap.size, 1, none⟩ = some (.int .i64 e0) ∧ w'.cell? ⟨ab, r * 4, none⟩ = some (.pointer (px ps[r])) ∧ w'.cell? ⟨ab, r * 4 + 1, none⟩ = some (.pointer (phl ps[r])) ∧ w'.cell? ⟨ab, r * 4 + 2, none⟩ = some (.pointer (some ⟨ps[r].b, 0, none⟩)) ∧ w'.cell? ⟨ab, r * 4 + 3, none⟩ = some (.int .i64 (pnm ps[r]))) (go_keep) (first | (go_at_call 56; refine (HPK _).mono ?_; rintro e w' ⟨rfl, rfl⟩))
    all_goals
      go_wp2_with fail
      go_meet
      case rel => exact ⟨rfl, rfl, rfl, 1, rfl⟩
  case rest =>
    obtain ⟨rfl, rfl, rfl, n, rfl⟩ := hcut
    have TG : Tch (fun _ => False) w (((w.alloc (.cells #[.int .i64 kd, .int .i64 e0, .int .i64 a, .int .i64 b, .int .i64 c] 79)).alloc (.cells #[.pointer (px ps[r]), .pointer (phl ps[r]), .pointer (some ⟨ps[r].b, 0, none⟩), .int .i64 (pnm ps[r])] 100)).drewN n) := (((Tch.refl _ _).alloc _).alloc _).drewN _
    have WG := W.grow hN TG
    have PO := WG.prs _ (List.getElem_mem hr)
    have hNG : N ≤ (((w.alloc (.cells #[.int .i64 kd, .int .i64 e0, .int .i64 a, .int .i64 b, .int .i64 c] 79)).alloc (.cells #[.pointer (px ps[r]), .pointer (phl ps[r]), .pointer (some ⟨ps[r].b, 0, none⟩), .int .i64 (pnm ps[r])] 100)).drewN n).heap.size := by simp; omega
    have fin : ∀ {w' : World} {p' : Pr}, Chg N (B + 1) (((w.alloc (.cells #[.int .i64 kd, .int .i64 e0, .int .i64 a, .int .i64 b, .int .i64 c] 79)).alloc (.cells #[.pointer (px ps[r]), .pointer (phl ps[r]), .pointer (some ⟨ps[r].b, 0, none⟩), .int .i64 (pnm ps[r])] 100)).drewN n) ps[r] w' p' →
        ∃ ps', WI N (B + 1) w0 w' wb (.slice (some ⟨ab, 0, none⟩) ps.length cap) ps' x ∧ ps.length = ps'.length ∧ w.heap.size ≤ w'.heap.size := by
      intro w' p' C
      refine ⟨_, WG.upd (B' := B + 1) (by omega) hNG r hr p' C.gb C.b C.rd C.tch C.ok C.sub, by simp, ?_⟩
      have := C.tch.size
      simp at this
      omega
    have nb : ∀ k, w.heap.size ≤ k → ¬ PS ps[r].gb ps[r].tv ps[r].rs ps[r].ns k := fun k hk x => by
      have := (W.prs _ (List.getElem_mem hr)).pg.ph.lt k x; omega
    have hlen := PO.len
    have htime := PO.time
    clear W x0 x1 x2 x3 cw HPK
    have k2' : (kd == 2) = false := by simp; omega
    have k11 : (kd == 11) = false := by simp; omega
    have k12 : (kd == 12) = false := by simp; omega
    have k3' : (kd == 3) = false := by simp; omega
    have k4' : (kd == 4) = false := by simp; omega
    have k5' : (kd == 5) = false := by simp; omega
    by_cases k6 : kd = 6
    · subst k6
      have HA := pcancel_any M PO a (by omega)
      clear M
      unfold pv at HA
      obtain ⟨s1, hs1⟩ : ∃ x, (Tg.change ps[r].g a 1 5).2 = x := ⟨_, rfl⟩
      rw [hs1] at HA
      go_wp2_with fail
      refine HA.mono ?_
      rintro e w1 ⟨rfl, tv', rs', ns', L⟩
      have cb : w1.cell? ⟨w.heap.size + 1, 2, none⟩ = some (.pointer (some ⟨ps[r].b, 0, none⟩)) := by
        rw [L.tch.cell (by simp) (nb _ (by omega)), World.cell?_drewN, World.cell?_alloc_at _ _ _ _ (by simp)]; rfl
      have ca : w1.cell? ⟨w.heap.size, 2, none⟩ = some (.int .i64 a) := by
        rw [L.tch.cell (by simp; omega) (nb _ (by omega)), World.cell?_drewN, World.cell?_alloc_past _ _ _ (by simp), World.cell?_alloc_at _ _ _ _ rfl]; rfl
      have HR := rcancel_any ps[r].b ps[r].g ps[r].rv a w1 (PO.rgKeep L.tch) PO.ok (by omega)
      rw [hs1] at HR
      clear hs1 HA
      go_wp2_with (first | (go_at_call 66; refine HR.mono ?_; rintro e w2 ⟨rfl, hr2, ht2⟩) | (go_at_call 60; refine (num_any _ _).mono ?_; rintro e w3 ⟨rfl, rfl⟩))
      go_ret
      exact ⟨rfl, fin (PO.both hNG L hr2 ht2 (Moved.same _ _) (Tg.change_ok _ _ _ _ PO.ok (by omega) (by omega)) (change_quiet _ PO.quiet _ _ _) (by rw [Tg.change_len]; omega) (by rw [change_time]; omega))⟩
    · have k6' : (kd == 6) = false := by simp [k6]
      by_cases k7 : kd = 7
      · subst k7
        have HA := ptick_any M PO (by omega)
        clear M
        unfold pv at HA
        go_wp2_with fail
        refine HA.mono ?_
        rintro e w1 ⟨rfl, tv', rs', ns', L⟩
        have cb : w1.cell? ⟨w.heap.size + 1, 2, none⟩ = some (.pointer (some ⟨ps[r].b, 0, none⟩)) := by
          rw [L.tch.cell (by simp) (nb _ (by omega)), World.cell?_drewN, World.cell?_alloc_at _ _ _ _ (by simp)]; rfl
        have HR := rtick_any ps[r].b ps[r].g ps[r].rv w1 (PO.rgKeep L.tch) PO.ok (by omega) (by omega)
        clear HA
        go_wp2_with (first | (go_at_call 68; refine HR.mono ?_; rintro e w2 ⟨rfl, hr2, ht2⟩))
        go_ret
        exact ⟨rfl, fin (PO.both hNG L hr2 ht2 (Moved.same _ _) (Tg.tick_ok _ PO.ok) (Tg.letIn_quiet _ _ _) (by rw [tick_len]; omega) (by show ps[r].g.time + 1 ≤ _; omega))⟩
      · have k7' : (kd == 7) = false := by simp [k7]
        obtain rfl : kd = 8 := by omega
        have HA := presize_any M PO a (by omega)
        clear M
        unfold pv at HA
        obtain ⟨s1, hs1⟩ : ∃ x, (Tg.resize ps[r].g a).2 = x := ⟨_, rfl⟩
        rw [hs1] at HA
        go_wp2_with fail
        refine HA.mono ?_
        rintro e w1 ⟨rfl, tv', rs', ns', L⟩
        have cb : w1.cell? ⟨w.heap.size + 1, 2, none⟩ = some (.pointer (some ⟨ps[r].b, 0, none⟩)) := by
          rw [L.tch.cell (by simp) (nb _ (by omega)), World.cell?_drewN, World.cell?_alloc_at _ _ _ _ (by simp)]; rfl
        have ca : w1.cell? ⟨w.heap.size, 2, none⟩ = some (.int .i64 a) := by
          rw [L.tch.cell (by simp; omega) (nb _ (by omega)), World.cell?_drewN, World.cell?_alloc_past _ _ _ (by simp), World.cell?_alloc_at _ _ _ _ rfl]; rfl
        have HR := rresize_any ps[r].b ps[r].g ps[r].rv a w1 (PO.rgKeep L.tch) PO.ok (by omega)
        rw [hs1] at HR
        clear hs1 HA
        go_wp2_with (first | (go_at_call 70; refine HR.mono ?_; rintro e w2 ⟨rfl, hr2, ht2⟩) | (go_at_call 60; refine (num_any _ _).mono ?_; rintro e w3 ⟨rfl, rfl⟩))
        go_ret
        exact ⟨rfl, fin (PO.both hNG L hr2 ht2 (Moved.same _ _) (Tg.resize_ok _ _ PO.ok) (resize_quiet _ PO.quiet _) (by rw [resize_len]; omega) (by rw [resize_time]; omega))⟩
end
end Go.Proofs.Ytekjgjhhjlcoaaa
