import Derived.Test.YtekjgjhhjlcoaaaPrgQ
import Derived.Test.YtekjgjhhjlcoaaaRefQ
import Derived.Test.YtekjgjhhjlcoaaaModG
namespace Go.Proofs.Ytekjgjhhjlcoaaa
open Go.RowKit Go.Conc Go.MuLone

/-- Two rising lists of the same numbers are one. -/
theorem sorted_ext : ∀ (a b : List Int), a.Pairwise (· < ·) → b.Pairwise (· < ·) → (∀ x, x ∈ a ↔ x ∈ b) → a = b
  | [], [], _, _, _ => rfl
  | [], y :: s, _, _, h => absurd ((h y).2 (by simp)) (by simp)
  | x :: r, [], _, _, h => absurd ((h x).1 (by simp)) (by simp)
  | x :: r, y :: s, ha, hb, h => by
    rw [List.pairwise_cons] at ha hb
    have exy : x = y := by
      have h1 := (h x).1 (by simp)
      have h2 := (h y).2 (by simp)
      simp only [List.mem_cons] at h1 h2
      rcases h1 with e | e
      · exact e
      · rcases h2 with e2 | e2
        · exact e2.symm
        · have := ha.1 y e2
          have := hb.1 x e
          omega
    subst exy
    rw [sorted_ext r s ha.2 hb.2 fun z => ?_]
    have hz := h z
    simp only [List.mem_cons] at hz
    constructor
    · intro hm
      rcases hz.1 (Or.inr hm) with e | e
      · subst e; have := ha.1 z hm; omega
      · exact e
    · intro hm
      rcases hz.2 (Or.inr hm) with e | e
      · subst e; have := hb.1 z hm; omega
      · exact e

/-- Those of one rank, by their numbers. -/
def qs (pass : Int) (r : Int) (ns : List Nd) : List Int := (ns.filter fun n => rk pass n == r).map (·.num)
/-- Those of the ranks below r. -/
def qTo (pass : Int) (ns : List Nd) : Nat → List Int
  | 0 => []
  | r + 1 => qTo pass ns r ++ qs pass (r : Int) ns

theorem qs_snoc (pass r : Int) (ns : List Nd) (j : Nat) (hj : j < ns.length) : qs pass r (ns.take (j + 1)) = qs pass r (ns.take j) ++ (if rk pass ns[j] == r then [ns[j].num] else []) := by
  unfold qs
  rw [List.take_succ_eq_append_getElem hj, List.filter_append, List.map_append]
  congr 1
  cases h : rk pass ns[j] == r <;> simp [h]

theorem qs_len (pass r : Int) (ns : List Nd) : (qs pass r ns).length ≤ ns.length := by
  unfold qs; rw [List.length_map]; exact List.length_filter_le _ _
theorem qs_countP (pass r : Int) (ns : List Nd) : (qs pass r ns).length = ns.countP fun n => rk pass n == r := by
  unfold qs; rw [List.length_map, List.countP_eq_length_filter]
theorem qTo_len (pass : Int) (ns : List Nd) : (qTo pass ns 4).length ≤ ns.length := by
  simp only [qTo, List.length_append, qs_countP, List.length_nil]
  induction ns with
  | nil => simp
  | cons n r ih =>
    simp only [List.countP_cons, List.length_cons]
    have : (if (rk pass n == ((0 : Nat) : Int)) = true then 1 else 0) + (if (rk pass n == ((1 : Nat) : Int)) = true then 1 else 0) + (if (rk pass n == ((2 : Nat) : Int)) = true then 1 else 0) + (if (rk pass n == ((3 : Nat) : Int)) = true then 1 else 0) ≤ 1 := by
      simp only [beq_iff_eq]
      by_cases h0 : rk pass n = ((0 : Nat) : Int)
      · rw [h0]; simp
      · by_cases h1 : rk pass n = ((1 : Nat) : Int)
        · rw [h1]; simp
        · by_cases h2 : rk pass n = ((2 : Nat) : Int)
          · rw [h2]; simp
          · rw [if_neg h0, if_neg h1, if_neg h2]; split <;> omega
    omega
theorem qTo_part (pass : Int) (ns : List Nd) (k j : Nat) (hk : k < 4) : (qTo pass ns k ++ qs pass k (ns.take j)).length ≤ ns.length := by
  have h1 : (qs pass k (ns.take j)).length ≤ (qs pass k ns).length := by
    unfold qs
    exact (((List.take_sublist j ns).filter _).map _).length_le
  have h2 : (qTo pass ns k).length + (qs pass k ns).length ≤ (qTo pass ns 4).length := by
    have hk' : k = 0 ∨ k = 1 ∨ k = 2 ∨ k = 3 := by omega
    rcases hk' with rfl | rfl | rfl | rfl <;> simp only [qTo, List.length_append, List.length_nil] <;> omega
  have h3 := qTo_len pass ns
  rw [List.length_append]; omega

section
variable {all : List Tg.Tk} {rs : List Rc} {ns : List Nd} {ixs : List Nat}

theorem Rel.mem_qs (h : Rel all rs ns ixs) (pass r x : Int) : x ∈ qs pass r ns ↔ ∃ k, ∃ hk : k < all.length, x = (k : Int) + 1 ∧ all[k].state = 1 ∧ (if pass ≤ all[k].count then 0 else 1 + all[k].band) = r := by
  unfold qs
  rw [List.mem_map]
  constructor
  · rintro ⟨n, hn, rfl⟩
    rw [List.mem_filter] at hn
    obtain ⟨hn, hr⟩ := hn
    obtain ⟨j, hj, rfl⟩ := List.getElem_of_mem hn
    have hji : j < ixs.length := by have := h.nlen; omega
    obtain ⟨n2, r2, t2, hn2, _, ht2, no⟩ := h.node j _ (List.getElem?_eq_getElem hji)
    obtain ⟨t3, ht3, hs⟩ := h.waits (List.getElem?_eq_getElem hji)
    rw [ht2] at ht3; simp at ht3; subst ht3
    obtain ⟨_, e2⟩ := List.getElem?_eq_some_iff.1 hn2
    obtain ⟨hx, e3⟩ := List.getElem?_eq_some_iff.1 ht2
    refine ⟨ixs[j], hx, by rw [e2]; exact no.num, by rw [e3]; exact hs, ?_⟩
    rw [e3, ← no.count, ← no.band, ← e2]
    simpa [rk] using hr
  · rintro ⟨k, hk, rfl, hs, hr⟩
    obtain ⟨j, hj⟩ := h.at (List.getElem?_eq_getElem hk) hs
    obtain ⟨n2, r2, t2, hn2, _, ht2, no⟩ := h.node j k hj
    rw [List.getElem?_eq_getElem hk] at ht2
    simp at ht2
    subst ht2
    refine ⟨n2, ?_, no.num⟩
    rw [List.mem_filter]
    refine ⟨List.mem_of_getElem? hn2, ?_⟩
    simp only [rk, no.count, no.band, hr, beq_self_eq_true]

theorem Rel.qs_sorted (h : Rel all rs ns ixs) (pass r : Int) : (qs pass r ns).Pairwise (· < ·) := by
  unfold qs
  have hn : (ns.map (·.num)).Pairwise (· < ·) := by
    rw [List.pairwise_iff_getElem]
    intro a b ha hb hab
    have ha' : a < ns.length := by simpa using ha
    have hb' : b < ns.length := by simpa using hb
    have num : ∀ j (hj : j < ns.length), ∃ k : Nat, ixs[j]? = some k ∧ ns[j].num = (k : Int) + 1 := by
      intro j hj
      have hji : j < ixs.length := by have := h.nlen; omega
      obtain ⟨n2, r2, t2, hn2, _, _, no⟩ := h.node j _ (List.getElem?_eq_getElem hji)
      obtain ⟨_, e2⟩ := List.getElem?_eq_some_iff.1 hn2
      exact ⟨_, List.getElem?_eq_getElem hji, by rw [e2]; exact no.num⟩
    obtain ⟨x, hx, ex⟩ := num a ha'
    obtain ⟨y, hy, ey⟩ := num b hb'
    have := sorted_lt h.sorted hx hy hab
    simp only [List.getElem_map, ex, ey]
    omega
  exact hn.sublist ((List.filter_sublist).map _)

/-- The program's queue is the document's. -/
theorem Rel.queue (h : Rel all rs ns ixs) {pass : Int} (ok : Tg.TksOk pass all) : qTo pass ns 4 = Tg.queueL pass all := by
  have due : qs pass 0 ns = Tg.idx (Tg.dueT pass) 0 all := by
    refine sorted_ext _ _ (h.qs_sorted _ _) (Tg.idx_sorted _ _ _) fun x => ?_
    rw [h.mem_qs, Tg.mem_idx]
    constructor
    · rintro ⟨k, hk, e, hs, hr⟩
      refine ⟨k, hk, by simpa using e, ?_⟩
      have := (ok _ (List.getElem_mem hk)).b1
      by_cases hc : pass ≤ all[k].count
      · simp [Tg.dueT, hs, hc]
      · rw [if_neg hc] at hr; omega
    · rintro ⟨k, hk, e, hp⟩
      simp only [Tg.dueT, Bool.and_eq_true, beq_iff_eq, decide_eq_true_eq] at hp
      exact ⟨k, hk, by simpa using e, hp.1, by rw [if_pos hp.2]⟩
  have band : ∀ b : Int, 0 ≤ b → qs pass (1 + b) ns = Tg.idx (Tg.bandT pass b) 0 all := by
    intro b hb
    refine sorted_ext _ _ (h.qs_sorted _ _) (Tg.idx_sorted _ _ _) fun x => ?_
    rw [h.mem_qs, Tg.mem_idx]
    constructor
    · rintro ⟨k, hk, e, hs, hr⟩
      refine ⟨k, hk, by simpa using e, ?_⟩
      by_cases hc : pass ≤ all[k].count
      · rw [if_pos hc] at hr; omega
      · rw [if_neg hc] at hr
        have : all[k].band = b := by omega
        simp [Tg.bandT, hs, hc, this]
    · rintro ⟨k, hk, e, hp⟩
      simp only [Tg.bandT, Bool.and_eq_true, beq_iff_eq, Bool.not_eq_true', decide_eq_false_iff_not] at hp
      exact ⟨k, hk, by simpa using e, hp.1.1, by rw [if_neg hp.2, hp.1.2]⟩
  have b0 := band 0 (by omega)
  have b1 := band 1 (by omega)
  have b2 := band 2 (by omega)
  simp only [qTo, List.nil_append, Tg.queueL, ← due, ← b0, ← b1, ← b2, List.append_assoc]
  rfl
end

section
variable {rd : Option Int} {w w' : World} {gb : Nat} {q : Gn} {tv : Value} {rs : List Rc} {ns : List Nd}

attribute [local go_sem] alloc_drewN setCell_drewN

set_option maxRecDepth 20000 in
set_option maxHeartbeats 2000000 in
theorem turns_any (h : PH w gb q tv rs ns) (hb : BandsOk ns) (hn : ns.length ≤ 10000000000000) :
    Calls Try.prog 37 #[.pointer (some ⟨gb, 0, none⟩)] w fun e w' => ∃ v, e = .returned v ∧ w'.ownsRow 0 3 1 v (qTo q.pass ns 4).length (ivs (qTo q.pass ns 4)) ∧ NewRow w v ∧ PH w' gb q tv rs ns ∧ Tch (fun _ => False) w w' := by
  obtain ⟨i0, hi, hz0, hz1, hz2⟩ := info_parts Try.infoInt
  have HI : Hid (Try.prog.info? 3 = some i0 ∧ i0.zero = some (.int .i64 0) ∧ i0.size = 1 ∧ i0.bytes = 8) := hid ⟨hi, hz0, hz1, hz2⟩
  clear hi hz0 hz1 hz2
  go_enter Try.func37, Try.ntmps37
  go_wp2
  go_loopg [3, 6] 4 (fun r lv rv wr => ∃ k : Nat, k + r = 4 ∧ rv = .int .i64 (k : Int) ∧ wr.ownsRow 0 3 1 lv (qTo q.pass ns k).length (ivs (qTo q.pass ns k)) ∧ NewRow w lv ∧ PH wr gb q tv rs ns ∧ Tch (fun _ => False) w wr)
  case atStart => exact ⟨0, by omega, rfl, World.ownsRow_nil _ _ _ _, fun k hk => by simp [Value.ownBlock] at hk, h, Tch.refl _ _⟩
  case round =>
    obtain ⟨k, hk, rfl, hown, hnew, hP, hT⟩ := hrel
    obtain ⟨ao, cap, rfl⟩ := row_form hown
    by_cases hk4 : k < 4
    · have FI := first_any hP
      rw [pn_head] at FI
      obtain ⟨p0, hp0⟩ : ∃ p0, pn ns[0]? = .pointer p0 := ⟨_, rfl⟩
      rw [hp0] at FI
      have HP0 := hid hp0
      clear hp0
      have e1 := wrapId ((k : Int) + 1) (by omega) (by omega)
      go_wp2_with (go_at_call 39; refine FI.mono ?_; rintro e w' ⟨rfl, rfl⟩)
      go_loopg [3, 5] ns.length (fun r lv nv wr => ∃ j : Nat, j + r = ns.length ∧ nv = pn ns[j]? ∧ wr.ownsRow 0 3 1 lv (qTo q.pass ns k ++ qs q.pass k (ns.take j)).length (ivs (qTo q.pass ns k ++ qs q.pass k (ns.take j))) ∧ NewRow w lv ∧ PH wr gb q tv rs ns ∧ Tch (fun _ => False) w wr)
      case atStart => exact ⟨0, by omega, HP0.out.symm, by simpa [qs] using hown, hnew, hP, hT⟩
      case round =>
        obtain ⟨j, hj, rfl, hown2, hnew2, hP2, hT2⟩ := hrel
        clear hown hnew hP hT FI HP0
        have hlen2 := qTo_part q.pass ns k j hk4
        obtain ⟨ao2, cap2, rfl⟩ := row_form hown2
        by_cases hlt : j < ns.length
        · have PA := pn_at ns j hlt
          have R1 := fun n => rank_any (hP2.drewN n) q.pass j hlt (hb j hlt)
          have NX := fun n => next_any (hP2.drewN n) j hlt
          have c0 := hP2.ncell j hlt 0
          have c3 := hP2.gcell 3
          simp at c0 c3
          have SN := qs_snoc q.pass k ns j hlt
          have NX3 := fun w3 (h3 : PH w3 gb q tv rs ns) => next_any h3 j hlt
          obtain ⟨bj, ebj⟩ : ∃ b, ns[j].blk = b := ⟨_, rfl⟩
          obtain ⟨rj, erj⟩ : ∃ b, rk q.pass ns[j] = b := ⟨_, rfl⟩
          obtain ⟨nj, enj⟩ : ∃ b, ns[j].num = b := ⟨_, rfl⟩
          rw [ebj] at PA c0
          rw [enj] at c0
          rw [erj, enj] at SN
          simp only [ebj] at R1 NX NX3
          simp only [erj] at R1
          obtain ⟨p1, ep1⟩ : ∃ b, pn ns[j + 1]? = .pointer b := ⟨_, rfl⟩
          simp only [ep1] at NX NX3
          have EP1 := hid ep1
          rw [PA]
          clear ebj erj enj ep1 PA
          obtain ⟨L, eL⟩ : ∃ L, qTo q.pass ns k ++ qs q.pass k (ns.take j) = L := ⟨_, rfl⟩
          rw [eL] at hown2 hlen2 hnew2
          have SN2 : Hid (qTo q.pass ns k ++ qs q.pass k (ns.take (j + 1)) = L ++ (if rj == (k : Int) then [nj] else [])) := hid (by rw [SN, ← eL, List.append_assoc])
          rw [eL]
          clear eL SN
          by_cases hr : rj = (k : Int)
          · have hr' : (rj == (k : Int)) = true := by simpa using hr
            have HR := hid hr
            clear hr
            go_wp2
            go_quiet ((go_at_call 77; exact Calls.quiet_of_same (R1 _)))
            clear R1 NX
            go_wp2_with (first | (at_builtin; refine wpList_append_own2 rfl (.tmp 27) (.tmp 33) 40 rfl 3 i0 (.int .i64 0) 1 8 Try.underlying40 HI.out.1 HI.out.2.1 HI.out.2.2.1 HI.out.2.2.2 rfl (by decide) (.slice ao2 L.length cap2) L.length (ivs L) rfl ?c1 ⟨wr.heap.size, 0, none⟩ 1 1 [.int .i64 nj] rfl rfl ?c2 ?c3 ?c4 ?c5 ?_) | fail)
            case c1 =>
              have hkeep : ∀ k', (Value.slice ao2 L.length cap2).ownBlock = some k' → ((wr.alloc (.cells #[.int .i64 nj] 3)).drewN nq).heap[k']? = wr.heap[k']? := fun k' hk' => Below.heap_alloc _ _ _ (hown2.lt k' hk').2
              exact ownsRow_keep hown2 hkeep
            case c2 =>
              intro j' u hj'
              rw [Addr.add_lit, World.cell?_drewN, World.cell?_alloc_at _ _ _ _ (by simp)]
              cases j' with
              | zero => simpa using hj'
              | succ j' => simp at hj'
            case c3 => intro u hu; simp at hu; subst hu; rfl
            case c4 => unfold maxLen; omega
            case c5 => omega
            intro lv' w3 hown' hgrow hmv
            have ht3 : Tch (fun _ => False) w w3 := Tch.grown ((hT2.alloc _).drewN nq) hgrow (fun k' hk' => Or.inr (hnew2 k' hk'))
            have hnew' := hnew2.moved (by have := hT2.size; simp; omega) hmv
            have hP3 : PH w3 gb q tv rs ns := h.tch ht3 fun _ _ x => x
            obtain ⟨ab', cap', rfl⟩ := ownsRow_form hown' (by omega)
            go_wp2_with fail
            refine (NX3 w3 hP3).mono ?_
            rintro e w4 ⟨rfl, rfl⟩
            go_wp2
            go_roundg (gk - 1)
            case rel =>
              refine ⟨j + 1, by omega, EP1.out.symm, ?_, hnew', hP3, ht3⟩
              have e := SN2.out
              rw [hr', if_pos rfl] at e
              rw [e]
              simpa [ivs_append, ivs] using hown'
            case measure => omega
          · have hr' : (rj == (k : Int)) = false := by simpa using hr
            clear hr
            go_wp2
            go_quiet ((go_at_call 77; exact Calls.quiet_of_same (R1 _)))
            go_wp2_with fail
            refine (NX nq).mono ?_
            rintro e w4 ⟨rfl, rfl⟩
            go_wp2
            go_roundg (gk - 1)
            case rel =>
              refine ⟨j + 1, by omega, EP1.out.symm, ?_, hnew2, hP2.drewN nq, hT2.drewN nq⟩
              have e := SN2.out
              rw [hr'] at e
              simp only [Bool.false_eq_true, if_false, List.append_nil] at e
              rw [e]
              exact hown2
            case measure => omega
        · rw [pn_past ns j hlt]
          have ej : ns.take j = ns := List.take_of_length_le (by omega)
          rw [ej] at hown2 hnew2 ⊢
          go_wp2
          go_roundg (4 - (k + 1))
          case rel => exact ⟨k + 1, by omega, by simp, hown2, hnew2, hP2, hT2⟩
          case measure => omega
    · obtain rfl : k = 4 := by omega
      go_wp2
      go_ret
      exact ⟨_, rfl, hown, hnew, hP, hT⟩

theorem Rel.ns_le {all : List Tg.Tk} {ixs : List Nat} (h : Rel all rs ns ixs) : ns.length ≤ all.length := by
  rw [← h.nlen]
  have : ixs.Nodup := h.sorted.imp fun h => by omega
  have hs : ∀ x ∈ ixs, x ∈ List.range all.length := fun x hx => by
    obtain ⟨t, ht, _⟩ := (h.mem x).1 hx
    exact List.mem_range.2 (List.getElem?_eq_some_iff.1 ht).1
  have := this.length_le_of_subset hs
  simpa using this

set_option maxHeartbeats 1000000 in
theorem queue_call {g : Tg.Gt} (h : PG rd w gb g tv rs ns) (ok : Tg.GtOk g) (hn : g.all.length ≤ 10000000000000) :
    Calls Try.prog 18 #[.pointer (some ⟨gb, 0, none⟩)] w fun e w' => ∃ v, e = .returned v ∧ w'.ownsRow 0 3 1 v (Tg.queue g.pass g.all).length (ivs (Tg.queue g.pass g.all)) ∧ NewRow w v ∧ (∀ k, v.ownBlock = some k → ¬ PS gb tv rs ns k) ∧ Left1 rd w gb tv rs ns w' g tv rs ns := by
  obtain ⟨ixs, hrel⟩ := h.rel
  have c0 := h.ph.gcell 0
  have f0 := h.ph.gfr 0
  have h1 := h.ph.lock
  simp [gnOf] at c0
  have hle := hrel.ns_le
  have HQ := turns_any h1 (hrel.bands ok.ok) (by omega)
  have EQ : qTo (gnOf rd 1 g).pass ns 4 = Tg.queue g.pass g.all := by rw [Tg.queue_eq]; exact hrel.queue ok.ok
  rw [EQ] at HQ
  clear EQ
  go_enter_defers Try.func18, Try.ntmps18
  go_wp2_with (first | (go_at_call 35; refine (lock_free Try.muLib ⟨gb, 0, none⟩ _ c0 f0).mono ?_; rintro e w' ⟨rfl, rfl⟩) | fail)
  refine HQ.mono ?_
  rintro e w5 ⟨v, rfl, ho, hnew, hP, hT⟩
  clear HQ
  obtain ⟨ao, cap, rfl⟩ := row_form ho
  go_wp2
  have D0 := hP.gcell 0
  have DF := hP.gfr 0
  simp [gnOf] at D0
  refine leaves_cons (f := 36) (args := #[.pointer (some ⟨gb, 0, none⟩)]) (by simp) (by simp [go_sem]) ?_
  refine (unlock_deferred Try.muLib ⟨gb, 0, none⟩ .returning _ D0 DF).mono ?_
  rintro e u' w'' ⟨rfl, rfl, rfl⟩
  have nw : NewRow w (Value.slice ao (Tg.queue g.pass g.all).length cap) := fun k hk => by have := hnew k hk; simpa using this
  have apart : ∀ k, (Value.slice ao (Tg.queue g.pass g.all).length cap).ownBlock = some k → ¬ PS gb tv rs ns k := fun k hk x => by
    have := nw k hk
    have := h.ph.lt k x
    omega
  refine ⟨.slice ao (Tg.queue g.pass g.all).length cap, results_tmp (fn := Try.f18) (t := 2) rfl _ _ _, _, rfl, ?_, nw, apart, ⟨hP.unlock, h.rel⟩, ?_, fun x hx => Or.inl hx⟩
  · exact ownsRow_setCell_other ho (a := ⟨gb, 0, none⟩) (fun e => apart gb e (PS.gate _ _ _ _)) _
  · exact (((lock_tch (gb := gb) (tv := tv) (rs := rs) (ns := ns) w 1).trans' hT fun _ x => x.elim)).setCell (p := ⟨gb, 0, none⟩) (Or.inl (PS.gate _ _ _ _)) _
end

end Go.Proofs.Ytekjgjhhjlcoaaa
