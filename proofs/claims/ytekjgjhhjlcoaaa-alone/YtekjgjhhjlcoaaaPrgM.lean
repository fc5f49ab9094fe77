import Derived.Test.YtekjgjhhjlcoaaaPrgL
import Derived.Test.YtekjgjhhjlcoaaaRefF
namespace Go.Proofs.Ytekjgjhhjlcoaaa
open Go.RowKit Go.Conc Go.MuLone

theorem Try.infoPRec : (Try.prog.info? 83).map (fun i => (i.zero, i.size, i.bytes)) = some (some (.pointer none), 1, 8) := by kernel_rfl

section
variable {rd : Option Int} {w w' : World} {gb : Nat} {q : Gn} {g : Tg.Gt} {tv tv' : Value} {rs : List Rc} {ns : List Nd} {ixs : List Nat}

/-- A record more: what the store into the field leaves. -/
theorem PH.addRec (h : PH w gb q tv rs ns) (rb : Nat) (weight : Int) (hrb : w.heap[rb]? = some (recObj ⟨rb, weight, 0, none⟩)) (hf : ∀ r ∈ rs, r.blk ≠ rb)
    (ho : w'.ownsRow 0 83 1 tv' (rs.length + 1) ((rs.map fun r => pr r.blk) ++ [pr rb])) (hg : w.grownBy w' tv.ownBlock) :
    w'.cell? ⟨gb, 6, none⟩ = some tv ∧ w'.frozen? ⟨gb, 6, none⟩ = false ∧ PH (w'.setCell ⟨gb, 6, none⟩ tv') gb q tv' (rs ++ [⟨rb, weight, 0, none⟩]) ns := by
  have keep : ∀ {k : Nat} {o : Obj}, w.heap[k]? = some o → kindOf o ≠ 83 + 1 → w'.heap[k]? = w.heap[k]? := by
    intro k o hh hk
    refine hg.block k (lt_of_block hh) fun e => ?_
    obtain ⟨cur, h2⟩ := h.rowBlk e.symm
    rw [hh] at h2
    simp at h2
    subst h2
    simp [kind_cells] at hk
  have hb : w'.heap[gb]? = some (gateObj q.rd q.mu q.room q.pass q.time q.held tv (pn ns.head?) (pn ns.getLast?)) := (keep h.gate (by simp [kind_gate])).trans h.gate
  have hne : tv'.ownBlock ≠ some gb := by
    intro e
    rcases ho.2 with ⟨rfl, _⟩ | ⟨ab, cap, cur, rfl, _, hh, _⟩
    · simp [Value.ownBlock] at e
    · simp [Value.ownBlock] at e
      subst e
      exact absurd (by rw [hh] at hb; simp at hb; rw [← kind_gate q.rd q.mu q.room q.pass q.time q.held tv (pn ns.head?) (pn ns.getLast?), ← hb]; simp [kind_cells]) (show ¬ (83 + 1 = 68 + 1) by decide)
  have sc : ∀ {k : Nat} {o : Obj}, w.heap[k]? = some o → kindOf o ≠ 83 + 1 → kindOf o ≠ 68 + 1 → (w'.setCell ⟨gb, 6, none⟩ tv').heap[k]? = some o := by
    intro k o hh h1 h2
    rw [Below.heap_setCell _ _ _ _ (ne_of_kind hh h.gate (by simpa [kind_cells, kind_chan, kind_gate] using h2))]
    exact (keep hh h1).trans hh
  refine ⟨by rw [gate_cell hb 6 (by omega)]; rfl, gate_free hb 6, (gate_set hb).2.2.2.2 _, ?_, fun r hr => ?_, fun r hr c s hc => ?_, fun j hj => ?_, ?_, h.nd2, ?_⟩
  · have := ownsRow_setCell_other ho (a := ⟨gb, 6, none⟩) hne tv'
    simpa using this
  · rcases List.mem_append.1 hr with x | x
    · exact sc (h.recs r x) (by simp [kind_cells, recObj]) (by simp [kind_cells, recObj])
    · simp at x; subst x
      exact sc hrb (by simp [kind_cells, recObj]) (by simp [kind_cells, recObj])
  · rcases List.mem_append.1 hr with x | x
    · exact sc (h.chans r x c s hc) (by simp [kind_chan]) (by simp [kind_chan])
    · simp at x; subst x; simp at hc
  · exact sc (h.nodes j hj) (by simp [kind_cells, nodeObj]) (by simp [kind_cells, nodeObj])
  · rw [List.map_append]
    refine List.nodup_append.2 ⟨h.nd1, by simp, ?_⟩
    intro a ha b hb2
    simp at hb2
    subst hb2
    obtain ⟨r, hr, rfl⟩ := List.mem_map.1 ha
    exact hf r hr
  · intro i j hi hj hij c s c' s' h1 h2
    have last : ∀ k (hk : k < (rs ++ [(⟨rb, weight, 0, none⟩ : Rc)]).length) c s, (rs ++ [(⟨rb, weight, 0, none⟩ : Rc)])[k].ch = some (c, s) → ∃ hk' : k < rs.length, rs[k].ch = some (c, s) := by
      intro k hk c s hc
      by_cases e : k < rs.length
      · rw [List.getElem_append_left e] at hc; exact ⟨e, hc⟩
      · rw [List.getElem_append_right (by omega)] at hc
        simp at hc
    obtain ⟨i1, i2⟩ := last i hi c s h1
    obtain ⟨j1, j2⟩ := last j hj c' s' h2
    exact h.nd3 i j i1 j1 hij c s c' s' i2 j2

theorem Rel.snoc (h : Rel g.all rs ns ixs) (r : Rc) (t : Tg.Tk) (ho : RecOk r t) (hs : t.state ≠ 1) : Rel (g.all ++ [t]) (rs ++ [r]) ns ixs := by
  have old : ∀ (i : Nat) (u : Tg.Tk), g.all[i]? = some u → (g.all ++ [t])[i]? = some u := fun i u hu => by
    have := (List.getElem?_eq_some_iff.1 hu).1
    rw [List.getElem?_append_left this]; exact hu
  have oldr : ∀ (i : Nat) (u : Rc), rs[i]? = some u → (rs ++ [r])[i]? = some u := fun i u hu => by
    have := (List.getElem?_eq_some_iff.1 hu).1
    rw [List.getElem?_append_left this]; exact hu
  refine ⟨by simp [h.len], fun i u hu => ?_, h.nlen, h.sorted, fun i => ?_, fun j i hj => ?_⟩
  · by_cases e : i < g.all.length
    · rw [List.getElem?_append_left e] at hu
      obtain ⟨r', hr', ro⟩ := h.rcs i u hu
      exact ⟨r', oldr i r' hr', ro⟩
    · have e2 : i = g.all.length := by
        have := (List.getElem?_eq_some_iff.1 hu).1
        simp at this; omega
      subst e2
      simp at hu
      subst hu
      refine ⟨r, ?_, ho⟩
      rw [← h.len]; simp
  · rw [h.mem]
    constructor
    · rintro ⟨u, hu, hs'⟩; exact ⟨u, old i u hu, hs'⟩
    · rintro ⟨u, hu, hs'⟩
      by_cases e : i < g.all.length
      · rw [List.getElem?_append_left e] at hu; exact ⟨u, hu, hs'⟩
      · have e2 : i = g.all.length := by
          have := (List.getElem?_eq_some_iff.1 hu).1
          simp at this; omega
        subst e2
        simp at hu
        subst hu
        exact absurd hs' hs
  · obtain ⟨n, r', u, h1, h2, h3, no⟩ := h.node j i hj
    exact ⟨n, r', u, h1, oldr i r' h2, old i u h3, no⟩

theorem Rel.snoc_wait (h : Rel g.all rs ns ixs) (r : Rc) (t : Tg.Tk) (n : Nd) (ho : RecOk r t) (hs : t.state = 1) (hn : NodeOk g.all.length n r t) : Rel (g.all ++ [t]) (rs ++ [r]) (ns ++ [n]) (ixs ++ [g.all.length]) := by
  have old : ∀ (i : Nat) (u : Tg.Tk), g.all[i]? = some u → (g.all ++ [t])[i]? = some u := fun i u hu => by
    have := (List.getElem?_eq_some_iff.1 hu).1
    rw [List.getElem?_append_left this]; exact hu
  have oldr : ∀ (i : Nat) (u : Rc), rs[i]? = some u → (rs ++ [r])[i]? = some u := fun i u hu => by
    have := (List.getElem?_eq_some_iff.1 hu).1
    rw [List.getElem?_append_left this]; exact hu
  have below : ∀ i ∈ ixs, i < g.all.length := fun i hi => by
    obtain ⟨u, hu, _⟩ := (h.mem i).1 hi
    exact (List.getElem?_eq_some_iff.1 hu).1
  refine ⟨by simp [h.len], fun i u hu => ?_, by simp [h.nlen], ?_, fun i => ?_, fun j i hj => ?_⟩
  · by_cases e : i < g.all.length
    · rw [List.getElem?_append_left e] at hu
      obtain ⟨r', hr', ro⟩ := h.rcs i u hu
      exact ⟨r', oldr i r' hr', ro⟩
    · have e2 : i = g.all.length := by
        have := (List.getElem?_eq_some_iff.1 hu).1
        simp at this; omega
      subst e2
      simp at hu
      subst hu
      refine ⟨r, ?_, ho⟩
      rw [← h.len]; simp
  · refine List.pairwise_append.2 ⟨h.sorted, by simp, fun a ha b hb => ?_⟩
    simp at hb
    subst hb
    exact below a ha
  · rw [List.mem_append, h.mem]
    constructor
    · rintro (⟨u, hu, hs'⟩ | hi)
      · exact ⟨u, old i u hu, hs'⟩
      · simp at hi; subst hi; exact ⟨t, by simp, hs⟩
    · rintro ⟨u, hu, hs'⟩
      by_cases e : i < g.all.length
      · rw [List.getElem?_append_left e] at hu; exact Or.inl ⟨u, hu, hs'⟩
      · have e2 : i = g.all.length := by
          have := (List.getElem?_eq_some_iff.1 hu).1
          simp at this; omega
        right; simp [e2]
  · by_cases e : j < ixs.length
    · rw [List.getElem?_append_left e] at hj
      obtain ⟨n', r', u, h1, h2, h3, no⟩ := h.node j i hj
      refine ⟨n', r', u, ?_, oldr i r' h2, old i u h3, no⟩
      rw [List.getElem?_append_left (by rw [← h.nlen]; exact e)]; exact h1
    · have e2 : j = ixs.length := by
        have := (List.getElem?_eq_some_iff.1 hj).1
        simp at this; omega
      subst e2
      simp at hj
      subst hj
      refine ⟨n, r, t, ?_, ?_, by simp, hn⟩
      · rw [h.nlen]; simp
      · rw [← h.len]; simp

set_option maxHeartbeats 400000 in
theorem ask_err (h : PG rd w gb g tv rs ns) (weight band wait : Int) (he : Tg.askErr weight band wait ≠ 0) :
    Calls Try.prog 21 #[.pointer (some ⟨gb, 0, none⟩), .int .i64 weight, .int .i64 band, .int .i64 wait] w fun e w' => e = .returned (.tuple #[.int .i64 0, .int .i64 0, .int .i64 (Tg.askErr weight band wait)]) ∧ PG rd w' gb g tv rs ns ∧ Tch (PS gb tv rs ns) w w' := by
  have c0 := h.ph.gcell 0
  have f0 := h.ph.gfr 0
  have h1 := h.ph.lock
  have d0 := h1.gcell 0
  have df := h1.gfr 0
  simp [gnOf] at c0 d0
  have T : Tch (PS gb tv rs ns) w ((w.setCell ⟨gb, 0, none⟩ (.int .i32 1)).setCell ⟨gb, 0, none⟩ (.int .i32 0)) := ((Tch.refl _ _).setCell (p := ⟨gb, 0, none⟩) (Or.inl (PS.gate _ _ _ _)) _).setCell (p := ⟨gb, 0, none⟩) (Or.inl (PS.gate _ _ _ _)) _
  have CK := checkAsk_any weight band wait
  obtain ⟨er, her⟩ : ∃ er, Tg.askErr weight band wait = er := ⟨_, rfl⟩
  rw [her] at he CK ⊢
  clear her
  have he' : (er != 0) = true := by simpa using he
  clear he
  go_enter_defers Try.func21, Try.ntmps21
  go_wp2_with (first | (go_at_call 35; refine (lock_free Try.muLib ⟨gb, 0, none⟩ _ c0 f0).mono ?_; rintro e w' ⟨rfl, rfl⟩) | (go_at_call 38; refine (CK _).mono ?_; rintro e w' ⟨rfl, rfl⟩))
  refine leaves_cons (f := 36) (args := #[.pointer (some ⟨gb, 0, none⟩)]) (by simp) (by simp [go_sem]) ?_
  refine (unlock_deferred Try.muLib ⟨gb, 0, none⟩ .returning _ d0 df).mono ?_
  rintro e u' w'' ⟨rfl, rfl, rfl⟩
  exact ⟨_, results_tmp3 rfl _ _ _, rfl, ⟨h1.unlock, h.rel⟩, T⟩
end

end Go.Proofs.Ytekjgjhhjlcoaaa
