import Derived.Test.YtekjgjhhjlcoaaaLawT
import Derived.Test.YtekjgjhhjlcoaaaModG
namespace Go.Proofs.Ytekjgjhhjlcoaaa
open Go.RowKit Go.Conc

theorem waitN_le (l : List Tg.Tk) : Tg.waitN l ≤ l.length := by
  induction l with
  | nil => simp [Tg.waitN]
  | cons t r ih => simp only [Tg.waitN, List.length_cons]; split <;> omega
theorem queue_len (pass : Int) (l : List Tg.Tk) (h : Tg.TksOk pass l) : (Tg.queue pass l).length ≤ l.length := by
  rw [Tg.queue_eq, Tg.queueL_length pass l h]; exact waitN_le l

section
variable {N B : Nat} {w0 w w' : World} {wb : Nat} {lv : Value} {ps : List Pr} {x : Ls}

/-- A list that came out has become the caller's. -/
theorem WI.owned (W : WI N B w0 w wb lv ps x) {nv' kv' v : Value} {ls' : List (Value × Int)} (hb : w'.heap[wb]? = some (.cells #[lv, nv', kv'] 76 (0, 0))) (L' : LI N w' nv' kv' ls') (hl : ls'.length = x.ls.length + 4)
    (ht : Tch (fun k => k = wb ∨ x.nv.ownBlock = some k ∨ x.kv.ownBlock = some k ∨ v.ownBlock = some k) w w') (hv : ∀ k, v.ownBlock = some k → ∃ cur, w.heap[k]? = some (.cells cur 3 (0, 0))) (vlow : ∀ k, v.ownBlock = some k → N ≤ k) : WI N (B + 1) w0 w' wb lv ps ⟨nv', kv', ls'⟩ := by
  have off : ∀ {k : Nat} {o : Obj}, w.heap[k]? = some o → kindOf o ≠ 76 + 1 → kindOf o ≠ 3 + 1 → kindOf o ≠ 40 + 1 → w'.heap[k]? = w.heap[k]? := by
    intro k o hh n1 n2 n3
    refine ht.block k (lt_of_block hh) fun y => ?_
    rcases y with y | y | y | y
    · subst y; rw [W.blk] at hh; simp at hh; subst hh; exact n1 (by simp [kind_cells])
    · obtain ⟨c, e⟩ := row_blk W.li.nrow y; rw [e] at hh; simp at hh; subst hh; exact n3 (by simp [kind_cells])
    · obtain ⟨c, e⟩ := row_blk W.li.krow y; rw [e] at hh; simp at hh; subst hh; exact n2 (by simp [kind_cells])
    · obtain ⟨c, e⟩ := hv k y; rw [e] at hh; simp at hh; subst hh; exact n2 (by simp [kind_cells])
  refine ⟨hb, ownsRow_keep W.row fun k hk => ?_, fun p hp => ((W.prs p hp).keep fun k hk => ?_).mono (by omega), W.sep, W.low, W.rlow, ?_, by have := W.num; omega, L', by have := W.lnum; simp only [hl]; omega⟩
  · obtain ⟨cur, hh⟩ := W.rowBlk hk
    exact off hh (by simp [kind_cells]) (by simp [kind_cells]) (by simp [kind_cells])
  · obtain ⟨o, ho, n1, _, n3, n4⟩ := (W.prs p hp).kind hk
    exact off ho n1 n3 n4
  · refine W.bel.trans ⟨ht.os, ht.tape, ht.output, ht.size, fun k hk => ht.block k (by have := lt_of_block W.blk; have := W.low; omega) fun y => ?_⟩
    rcases y with y | y | y | y
    · have := W.low; omega
    · have := W.li.nlow k y; omega
    · have := W.li.klow k y; omega
    · have := vlow k y; omega

attribute [local go_sem] alloc_drewN setCell_drewN

set_option maxRecDepth 20000 in
set_option maxHeartbeats 1000000 in
theorem step_queue (M : GateMore) (W : WI N B w0 w wb lv ps x) (hN : N ≤ w.heap.size) (hps : 0 < ps.length) (e0 a b c : Int) (he1 : -9223372036854775808 ≤ e0) (he2 : e0 ≤ 9223372036854775807) (hB : B + 1 ≤ 1000000000000) :
    Calls Try.prog 32 #[.pointer (some ⟨wb, 0, none⟩), stepV 9 e0 a b c] w fun e w' => e = .returned (.bool true) ∧
      ∃ ps' x', WI N (B + 1) w0 w' wb lv ps' x' ∧ ps.length = ps'.length ∧ w.heap.size ≤ w'.heap.size := by
  obtain ⟨ao, cap, rfl, hcells⟩ := W.form
  obtain ⟨ab, rfl, _⟩ := hcells 0 hps
  have hc : ∀ k (hk : k < ps.length), w.cell? ⟨ab, k * 4, none⟩ = some (.pointer (px ps[k])) ∧ w.cell? ⟨ab, k * 4 + 1, none⟩ = some (.pointer (phl ps[k])) ∧ w.cell? ⟨ab, k * 4 + 2, none⟩ = some (.pointer (some ⟨ps[k].b, 0, none⟩)) ∧ w.cell? ⟨ab, k * 4 + 3, none⟩ = some (.int .i64 (pnm ps[k])) := by
    intro k hk
    obtain ⟨ab2, e, hf⟩ := hcells k hk
    simp at e
    subst e
    exact ⟨hf 0 (by omega), hf 1 (by omega), hf 2 (by omega), hf 3 (by omega)⟩
  have cw := W.c0
  have hnum := W.num
  have hwl := lt_of_block W.blk
  have habl : ab < w.heap.size := by
    obtain ⟨cur, hh⟩ := W.rowBlk (k := ab) rfl
    exact lt_of_block hh
  obtain ⟨r, hr, HPK⟩ := pick_one e0 ps.length hps (by omega) he1 he2
  obtain ⟨x0, x1, x2, x3⟩ := hc r hr
  clear hcells hc
  unfold stepV
  go_enter Try.func32, Try.ntmps32
  go_upto_region 3 with fail
  go_cut [0, 3, 5] (fun s0 s3 s5 wc => s0 = .pointer (some ⟨wb, 0, none⟩) ∧ s3 = .pointer (some ⟨w.heap.size, 0, none⟩) ∧ s5 = .pointer (some ⟨w.heap.size + 1, 0, none⟩) ∧ ∃ n, wc = ((w.alloc (.cells #[.int .i64 9, .int .i64 e0, .int .i64 a, .int .i64 b, .int .i64 c] 79)).alloc (.cells #[.pointer (px ps[r]), .pointer (phl ps[r]), .pointer (some ⟨ps[r].b, 0, none⟩), .int .i64 (pnm ps[r])] 100)).drewN n)
  case first =>
    go_region_held3 (fun w' => w'.cell? ⟨wb, 0, none⟩ = some (.slice (some ⟨ab, 0, none⟩) ps.length cap) ∧ w'.cell? ⟨w.heap.size, 1, none⟩ = some (.int .i64 e0) ∧ w'.cell? ⟨ab, r * 4, none⟩ = some (.pointer (px ps[r])) ∧ w'.cell? ⟨ab, r * 4 + 1, none⟩ = some (.pointer (phl ps[r])) ∧ w'.cell? ⟨ab, r * 4 + 2, none⟩ = some (.pointer (some ⟨ps[r].b, 0, none⟩)) ∧ w'.cell? ⟨ab, r * 4 + 3, none⟩ = some (.int .i64 (pnm ps[r]))) (go_keep) (first | (go_at_call 56; refine (HPK _).mono ?_; rintro e w' ⟨rfl, rfl⟩))
    all_goals
      go_wp2_with fail
      go_meet
      case rel => exact ⟨rfl, rfl, rfl, 1, rfl⟩
  case rest =>
    obtain ⟨rfl, rfl, rfl, n, rfl⟩ := hcut
    have TG : Tch (fun _ => False) w (((w.alloc (.cells #[.int .i64 9, .int .i64 e0, .int .i64 a, .int .i64 b, .int .i64 c] 79)).alloc (.cells #[.pointer (px ps[r]), .pointer (phl ps[r]), .pointer (some ⟨ps[r].b, 0, none⟩), .int .i64 (pnm ps[r])] 100)).drewN n) := (((Tch.refl _ _).alloc _).alloc _).drewN _
    have WG := W.grow hN TG
    have PO := WG.prs _ (List.getElem_mem hr)
    have hNG : N ≤ (((w.alloc (.cells #[.int .i64 9, .int .i64 e0, .int .i64 a, .int .i64 b, .int .i64 c] 79)).alloc (.cells #[.pointer (px ps[r]), .pointer (phl ps[r]), .pointer (some ⟨ps[r].b, 0, none⟩), .int .i64 (pnm ps[r])] 100)).drewN n).heap.size := by simp; omega
    have nb : ∀ k, w.heap.size ≤ k → ¬ PS ps[r].gb ps[r].tv ps[r].rs ps[r].ns k := fun k hk x => by
      have := (W.prs _ (List.getElem_mem hr)).pg.ph.lt k x; omega
    have hlen := PO.len
    have htime := PO.time
    have nlt : ∀ e ∈ x.ls, ∀ k, e.1.ownBlock = some k → k < w.heap.size := fun e he k hk => (W.li.ents e he).lt hk
    have klt : ∀ k, x.kv.ownBlock = some k → k < w.heap.size := fun k hk => (W.li.krow.lt k hk).2
    clear W x0 x1 x2 x3 cw HPK
    have HA := pqueue_any M PO (by omega)
    clear M
    unfold pv at HA
    go_wp2_with fail
    refine HA.mono ?_
    rintro e w1 ⟨v, rfl, ho, hnew, L⟩
    have cb : w1.cell? ⟨w.heap.size + 1, 2, none⟩ = some (.pointer (some ⟨ps[r].b, 0, none⟩)) := by
      rw [L.tch.cell (by simp) (nb _ (by omega)), World.cell?_drewN, World.cell?_alloc_at _ _ _ _ (by simp)]; rfl
    have HR := rqueue_any ps[r].b ps[r].g ps[r].rv w1 (PO.rgKeep L.tch) (by omega)
    obtain ⟨ao, cp, rfl⟩ := row_form ho
    clear HA
    go_wp2_with fail
    refine HR.mono ?_
    rintro e w2 ⟨v2, rfl, ho2, ht2, _⟩
    obtain ⟨ao2, cp2, rfl⟩ := row_form ho2
    have C1 := PO.both (B' := B) hNG L (PO.rgKeep L.tch) (Tch.refl _ _) (Moved.same _ _) PO.ok PO.quiet (by omega) (by omega)
    have W1 := WG.upd (Nat.le_refl B) hNG r hr _ C1.gb C1.b C1.rd C1.tch C1.ok C1.sub
    have hz1 := L.tch.size
    have hz2 := ht2.size
    simp at hz1
    have W2 := W1.grow (by omega) ht2
    have hql := queue_len _ _ PO.ok.ok
    have ho' := ownsRow_keep (w' := w2) ho fun k hk => ht2.block k (ho.lt k hk).2 fun y => y
    have vnew : ∀ k, (Value.slice ao (Tg.queue ps[r].g.pass ps[r].g.all).length cp).ownBlock = some k → w.heap.size ≤ k := fun k hk => by
      have := hnew k hk
      simp at this
      omega
    clear C1 W1 WG PO L ho hnew cb HR ht2 TG nb
    generalize Tg.queue ps[r].g.pass ps[r].g.all = q at *
    have I1 := Ints.of_row ho'
    have I2 := Ints.of_row ho2
    obtain ⟨_, _, e1, hqm, hc1⟩ := I1.form
    obtain ⟨_, _, e2, _, hc2⟩ := I2.form
    simp at e1 e2
    obtain ⟨rfl, rfl⟩ := e1
    obtain ⟨rfl, rfl⟩ := e2
    clear I1 I2
    go_wp2_with fail
    go_loopg [20, 21] q.length (fun r ok i wr => ∃ k : Nat, k + r = q.length ∧ ok = .bool true ∧ i = .int .i64 k ∧ ∃ n, wr = w2.drewN n)
    case atStart => exact ⟨0, by omega, by simp, rfl, 0, rfl⟩
    case round =>
      obtain ⟨k, hk, rfl, rfl, m, rfl⟩ := hrel
      by_cases hkl : k < q.length
      · obtain ⟨ab1, rfl, d1⟩ := hc1 k hkl
        obtain ⟨ab2, rfl, d2⟩ := hc2 k hkl
        go_wp2
        go_quiet (fail)
        go_wp2
        go_roundg (gk - 1)
        case rel => exact ⟨k + 1, by omega, by simp, by go_num, _, rfl⟩
        case measure => omega
      · have W3 := W2.grow (by omega) ((Tch.refl _ _).drewN m)
        have HO := own_any (W3.blk) W3.li (by simp; omega) q (ownsRow_keep ho' fun _ _ => rfl) (by omega) (by have := W3.lnum; omega) (fun k hk => by have := vnew k hk; omega) (fun k hk hk2 => by have := vnew k hk; have := klt k hk2; omega) (fun e he k hk hk2 => by have := vnew k hk2; have := nlt e he k hk; omega)
        go_wp2_with (go_at_call 73; refine HO.mono ?_; rintro e w4 ⟨rfl, nv', kv', ls', hl4, hb4, L4, ht4⟩)
        go_ret
        refine ⟨rfl, _, _, W3.owned hb4 L4 hl4 ht4 (fun k hk => row_blk ho' hk) (fun k hk => by have := vnew k hk; omega), by simp, ?_⟩
        have := ht4.size
        simp at this
        omega
end
end Go.Proofs.Ytekjgjhhjlcoaaa
