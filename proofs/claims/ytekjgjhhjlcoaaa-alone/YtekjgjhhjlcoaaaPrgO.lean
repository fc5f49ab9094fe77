import Derived.Test.YtekjgjhhjlcoaaaPrgN
namespace Go.Proofs.Ytekjgjhhjlcoaaa
open Go.RowKit Go.Conc Go.MuLone

theorem give_idle (p : Addr) (w : World) :
    CallsD Try.prog 82 #[.pointer (some p)] .returning w fun e u' w' => e = .returned (.tuple #[]) ∧ u' = .returning ∧ w' = w := by
  refine callsD_of_wpS Try.func82 rfl fun c₀ cs hu => ?_
  apply wpS_seq
  apply wpS_region
  simp [wpOpsS, go_sem, recoverD, hu, Try.ntmps82, Exit.thenS]
  refine wpS_cond (t := false) (by simp [Act.eval, Array.replicate]) ?_
  simp only [Bool.false_eq_true, if_false]
  refine wpS_of_wp (wp_skip ?_)
  cases c₀
  simp_all [bodyPostS, results, Try.results82]

theorem held_ge {pass : Int} (l : List Tg.Tk) (ok : Tg.TksOk pass l) (k : Nat) (hk : k < l.length) (hs : l[k].state = 2) : l[k].weight ≤ Tg.held l := by
  have h1 := Tg.held_take_succ l k hk
  rw [if_pos hs] at h1
  have h2 := Tg.held_bounds pass _ (ok.take k)
  have h3 : Tg.held l = Tg.held (l.take (k + 1)) + Tg.held (l.drop (k + 1)) := by rw [← Tg.held_append, List.take_append_drop]
  have h4 := Tg.held_bounds pass (l.drop (k + 1)) (fun t ht => ok t (List.mem_of_mem_drop ht))
  omega

section
variable {rd : Option Int} {w w' : World} {gb : Nat} {q : Gn} {g : Tg.Gt} {tv tv' : Value} {rs : List Rc} {ns : List Nd} {ixs : List Nat}

theorem Rel.reset (h : Rel g.all rs ns ixs) (k : Nat) (hk : k < g.all.length) (hkr : k < rs.length) (hs : g.all[k].state ≠ 1) (s : Int) (hs' : s ≠ 1) : Rel (g.all.modify k (Tg.setState s)) (rs.set k (settleR s rs[k])) ns ixs := by
  have ge : ∀ i : Nat, i ≠ k → (g.all.modify k (Tg.setState s))[i]? = g.all[i]? := fun i hi => by
    rw [List.getElem?_modify]; cases g.all[i]? <;> simp [show ¬ k = i from fun x => hi x.symm]
  have gk : (g.all.modify k (Tg.setState s))[k]? = some (Tg.setState s g.all[k]) := by rw [List.getElem?_modify, List.getElem?_eq_getElem hk]; simp
  have ro := h.recAt k hkr hk
  refine ⟨by simp [h.len], fun i t ht => ?_, h.nlen, h.sorted, fun i => ?_, fun j i hj => ?_⟩
  · by_cases e : i = k
    · subst e
      rw [gk] at ht
      simp at ht
      subst ht
      refine ⟨settleR s rs[i], by rw [List.getElem?_set_self hkr], ⟨ro.weight, ?_, fun _ => rfl⟩⟩
      simp only [isOpen, settleR, Tg.setState]
      cases rs[i].ch <;> simp [hs']
    · rw [ge i e] at ht
      obtain ⟨r, hr, ro'⟩ := h.rcs i t ht
      exact ⟨r, by rw [List.getElem?_set_ne (fun x => e x.symm)]; exact hr, ro'⟩
  · rw [h.mem]
    by_cases e : i = k
    · subst e
      rw [gk, List.getElem?_eq_getElem hk]
      constructor
      · rintro ⟨t, ht, hst⟩; simp at ht; subst ht; exact absurd hst hs
      · rintro ⟨t, ht, hst⟩; simp at ht; subst ht; exact absurd hst hs'
    · rw [ge i e]
  · obtain ⟨n, r, t, h1, h2, h3, no⟩ := h.node j i hj
    obtain ⟨t', ht', hst⟩ := h.waits hj
    have e : i ≠ k := by
      rintro rfl
      rw [List.getElem?_eq_getElem hk] at ht'
      simp at ht'
      subst ht'
      exact hs hst
    exact ⟨n, r, t, h1, by rw [List.getElem?_set_ne (fun x => e x.symm)]; exact h2, by rw [ge i e]; exact h3, no⟩

/-- What an inner call leaves, with the gate locked. -/
structure Left2 (rd : Option Int) (w : World) (gb : Nat) (tv : Value) (rs : List Rc) (ns : List Nd) (w' : World) (g' : Tg.Gt) (tv' : Value) (rs' : List Rc) (ns' : List Nd) : Prop where
  ph : PH w' gb (gnOf rd 1 g') tv' rs' ns'
  rel : ∃ ixs, Rel g'.all rs' ns' ixs
  tch : Tch (PS gb tv rs ns) w w'
  sub : ∀ k, PS gb tv' rs' ns' k → PS gb tv rs ns k ∨ w.heap.size ≤ k

attribute [local go_sem] alloc_drewN setCell_drewN

set_option maxRecDepth 20000 in
set_option maxHeartbeats 1000000 in
theorem give_any (h : PH w gb (gnOf rd 1 g) tv rs ns) (hrel : Rel g.all rs ns ixs) (ok : Tg.GtOk g) (n : Int) (hn : g.all.length ≤ 10000000000000) :
    Calls Try.prog 51 #[.pointer (some ⟨gb, 0, none⟩), .int .i64 n] w fun e w' => e = .returned (.int .i64 (Tg.change g n 2 6).2) ∧ ∃ rs' ns', Left2 rd w gb tv rs ns w' (Tg.change g n 2 6).1 tv rs' ns' := by
  have hmf : ∀ (fn : Fn) (first cap : Array Value) (w : World), (Instr.makeFunc fn first cap).run Try.prog w = .ok (.func fn first cap) w := fun _ _ _ _ => rfl
  by_cases hv : 1 ≤ n ∧ n ≤ g.all.length
  · obtain ⟨k, rfl⟩ : ∃ k : Nat, n = (k : Int) + 1 := ⟨(n - 1).toNat, by omega⟩
    have hk : k < g.all.length := by omega
    have hkr : k < rs.length := by rw [hrel.len]; exact hk
    have HA := h.alloc (.cells #[.int .i64 0] 44)
    have HF := find_good HA k hkr
    have ro := hrel.recAt k hkr hk
    obtain ⟨st, hst⟩ : ∃ st, recState rs[k] = st := ⟨_, rfl⟩
    have HSA := state_any HA (List.getElem_mem hkr)
    rw [hst] at HSA
    rw [ro.state] at hst
    by_cases he : g.all[k].state = 2
    · have hs : Tg.change g ((k : Int) + 1) 2 6 = ({ g with all := Tg.letIn g.room g.pass (g.all.modify k (Tg.setState 6)) }, 0) := by
        unfold Tg.change; rw [if_pos hv]; simp [hk, he]
      rw [hs]
      have he' : (st != 2) = false := by rw [← hst, he]; rfl
      have tk := ok.ok _ (List.getElem_mem hk)
      have k1 := tk.w1
      have k2 := held_ge g.all ok.ok k hk he
      have hb := Tg.held_bounds _ _ ok.ok
      rw [← ro.weight] at k1 k2
      have HRE := release_any HA k hkr (by show Tg.held g.all ≤ _; omega) (by omega) k2
      have hrel1 := hrel.reset k hk hkr (by omega) 6 (by omega)
      have hok1 : Tg.GtOk { g with all := g.all.modify k (Tg.setState 6) } := ⟨ok.r1, ok.r2, ok.p1, ok.p2, ok.t1, ok.ok.modify _ _ fun hk => (ok.ok _ (List.getElem_mem hk)).set 6 (by omega) (by omega) (by omega)⟩
      have eg : gnOf rd 1 { g with all := g.all.modify k (Tg.setState 6) } = { gnOf rd 1 g with held := (gnOf rd 1 g).held - rs[k].weight } := by
        simp only [gnOf]
        rw [Tg.held_modify g.all k hk 6, if_pos he, ro.weight]
        simp
      have EG := hid eg
      clear hs hv he hst ro tk eg
      go_enter_defers Try.func51, Try.ntmps51
      go_wp2_with (first | (go_at_call 48; refine HF.mono ?_; rintro e w' ⟨rfl, rfl⟩) | (go_at_call 45; refine HSA.mono ?_; rintro e w' ⟨rfl, rfl⟩) | fail)
      refine HRE.mono ?_
      rintro e w3 ⟨rfl, hp3, ht3⟩
      rw [← EG.out] at hp3
      have HLI := letIn_any hp3 hrel1 hok1 (by simpa using hn)
      have hc3 : w3.heap[w.heap.size]? = some (.cells #[.int .i64 0] 44 (0, 0)) := by
        rw [ht3.block w.heap.size (by simp) (fun x => by have := h.lt _ x; omega)]
        exact heap_alloc_new _ _
      clear HF HSA HRE HA
      go_wp2_with fail
      refine HLI.mono ?_
      rintro e w5 ⟨rfl, rs5, ns5, ixs5, L5⟩
      have hc5 : w5.heap[w.heap.size]? = some (.cells #[.int .i64 0] 44 (0, 0)) := by
        rw [L5.tch.block w.heap.size (by have := ht3.size; simp at this; omega) (fun x => by have := h.lt _ (PS.sub_settle hkr 6 x); omega)]
        exact hc3
      have cc := cell_of_one hc5
      have cf := free_of_one hc5
      clear HLI
      have P6 : PH (w5.setCell ⟨w.heap.size, 0, none⟩ (.int .i64 0)) gb (gnOf rd 1 { g with all := Tg.letIn g.room g.pass (g.all.modify k (Tg.setState 6)) }) tv rs5 ns5 :=
        L5.ph.keep fun x hx => Below.heap_setCell _ _ _ _ (fun e => by have := h.lt _ (PS.sub_settle hkr 6 (L5.sub x hx)); simp at e; omega)
      have T6 : Tch (PS gb tv rs ns) w (w5.setCell ⟨w.heap.size, 0, none⟩ (.int .i64 0)) :=
        ((((Tch.refl _ _).alloc _).trans ht3).trans' L5.tch fun x hx => Or.inl (PS.sub_settle hkr 6 hx)).setCell (p := ⟨w.heap.size, 0, none⟩) (Or.inr (Nat.le_refl _)) _
      go_wp2
      refine leaves_cons (f := 82) (args := #[.pointer (some ⟨w.heap.size, 0, none⟩)]) (by simp) (by simp [go_sem]) ?_
      refine (give_idle ⟨w.heap.size, 0, none⟩ _).mono ?_
      rintro e u' w'' ⟨rfl, rfl, rfl⟩
      have cr := World.cell?_setCell_same w5 ⟨w.heap.size, 0, none⟩ (.int .i64 0) cc
      exact ⟨.int .i64 0, by simp [results, Try.results51, go_sem, cr], rfl, rs5, ns5, P6, ⟨ixs5, L5.rel⟩, T6, fun x hx => Or.inl (PS.sub_settle hkr 6 (L5.sub x hx))⟩
    · have hs : Tg.change g ((k : Int) + 1) 2 6 = (g, 7) := by
        unfold Tg.change; rw [if_pos hv]; simp [hk, he]
      rw [hs]
      have he' : (st != 2) = true := by rw [← hst]; simpa using he
      clear hs hv he hst ro
      go_enter_defers Try.func51, Try.ntmps51
      go_wp2_with (first | (go_at_call 48; refine HF.mono ?_; rintro e w' ⟨rfl, rfl⟩) | (go_at_call 45; refine HSA.mono ?_; rintro e w' ⟨rfl, rfl⟩))
      refine leaves_cons (f := 82) (args := #[.pointer (some ⟨w.heap.size, 0, none⟩)]) (by simp) (by simp [go_sem]) ?_
      refine (give_idle ⟨w.heap.size, 0, none⟩ _).mono ?_
      rintro e u' w'' ⟨rfl, rfl, rfl⟩
      exact ⟨.int .i64 7, by simp [results, Try.results51, go_sem], rfl, rs, ns, h.alloc _, ⟨ixs, hrel⟩, (Tch.refl _ _).alloc _, fun x hx => Or.inl hx⟩
  · have hs : Tg.change g n 2 6 = (g, 6) := by unfold Tg.change; rw [if_neg hv]
    rw [hs]
    have hv' : ¬ (1 ≤ n ∧ n ≤ rs.length) := by rw [hrel.len]; exact hv
    have HB := find_bad (h.alloc (.cells #[.int .i64 0] 44)) n hv'
    clear hs hv
    go_enter_defers Try.func51, Try.ntmps51
    go_wp2_with (go_at_call 48; refine HB.mono ?_; rintro e w' ⟨rfl, rfl⟩)
    refine leaves_cons (f := 82) (args := #[.pointer (some ⟨w.heap.size, 0, none⟩)]) (by simp) (by simp [go_sem]) ?_
    refine (give_idle ⟨w.heap.size, 0, none⟩ _).mono ?_
    rintro e u' w'' ⟨rfl, rfl, rfl⟩
    exact ⟨.int .i64 6, by simp [results, Try.results51, go_sem], rfl, rs, ns, h.alloc _, ⟨ixs, hrel⟩, (Tch.refl _ _).alloc _, fun x hx => Or.inl hx⟩

set_option maxHeartbeats 1000000 in
theorem give_call (h : PG rd w gb g tv rs ns) (ok : Tg.GtOk g) (n : Int) (hn : g.all.length ≤ 10000000000000) :
    Calls Try.prog 29 #[.pointer (some ⟨gb, 0, none⟩), .int .i64 n] w fun e w' => e = .returned (.int .i64 (Tg.change g n 2 6).2) ∧ ∃ rs' ns', Left1 rd w gb tv rs ns w' (Tg.change g n 2 6).1 tv rs' ns' := by
  obtain ⟨ixs, hrel⟩ := h.rel
  have c0 := h.ph.gcell 0
  have f0 := h.ph.gfr 0
  have h1 := h.ph.lock
  simp [gnOf] at c0
  have HG := give_any h1 hrel ok n hn
  go_enter_defers Try.func29, Try.ntmps29
  go_wp2_with (first | (go_at_call 35; refine (lock_free Try.muLib ⟨gb, 0, none⟩ _ c0 f0).mono ?_; rintro e w' ⟨rfl, rfl⟩) | (go_at_call 51; refine HG.mono ?_; rintro e w5 ⟨rfl, rs5, ns5, L5⟩))
  have d0 := L5.ph.gcell 0
  have df := L5.ph.gfr 0
  simp [gnOf] at d0
  refine leaves_cons (f := 36) (args := #[.pointer (some ⟨gb, 0, none⟩)]) (by simp) (by simp [go_sem]) ?_
  refine (unlock_deferred Try.muLib ⟨gb, 0, none⟩ .returning _ d0 df).mono ?_
  rintro e u' w'' ⟨rfl, rfl, rfl⟩
  refine ⟨_, results_tmp rfl _ _ _, rfl, rs5, ns5, ⟨L5.ph.unlock, L5.rel⟩, ?_, fun k hk => ?_⟩
  · exact ((((Tch.refl _ _).setCell (p := ⟨gb, 0, none⟩) (Or.inl (PS.gate _ _ _ _)) _).trans L5.tch).setCell (p := ⟨gb, 0, none⟩) (Or.inl (PS.gate _ _ _ _)) _)
  · have := L5.sub k hk
    simpa using this
end

end Go.Proofs.Ytekjgjhhjlcoaaa
