import Derived.Test.YtihijgjihfadoaaPrgR
namespace Go.Proofs.Ytihijgjihfadoaa
open Go.RowKit Go.Conc

/-- Which of n numbers a raw number speaks of. -/
def pk (c : Int) (n : Nat) : Nat := ((if c < 0 then -(c + 1) else c).tmod (n : Int)).toNat

theorem pk_lt (c : Int) (n : Nat) (hn : 0 < n) : pk c n < n := by
  unfold pk
  have a := Int.tmod_lt_of_pos (if c < 0 then -(c + 1) else c) (show (0 : Int) < n by omega)
  omega

theorem pk_eq (c : Int) (n : Nat) : ((pk c n : Nat) : Int) = (if c < 0 then -(c + 1) else c).tmod (n : Int) := by
  unfold pk
  have b := Int.tmod_nonneg (n : Int) (show 0 ≤ (if c < 0 then -(c + 1) else c) by split <;> omega)
  omega

theorem kpick_any (c : Int) (n : Nat) (hn : 0 < n) (hn2 : n ≤ 4611686018427387904) (h1 : -9223372036854775808 ≤ c) (h2 : c ≤ 9223372036854775807) (w : World) :
    Calls Try.prog 12 #[.int .i64 c, .int .i64 (n : Int)] w fun e w' => e = .returned (.int .i64 (pk c n : Int)) ∧ w' = w := by
  have hn0 : ¬ (n : Int) = 0 := by omega
  have e := pk_eq c n
  have hl := pk_lt c n hn
  by_cases hc : c < 0
  · rw [if_pos hc] at e
    generalize pk c n = r at e hl
    have e' := e.symm
    clear e
    go_enter Try.func12, Try.ntmps12
    go_wp2
    all_goals go_ret
    all_goals exact ⟨rfl, rfl⟩
  · rw [if_neg hc] at e
    generalize pk c n = r at e hl
    have e' := e.symm
    clear e
    go_enter Try.func12, Try.ntmps12
    go_wp2
    all_goals go_ret
    all_goals exact ⟨rfl, rfl⟩

/-- A gate of the program as one thing: it is the model's gate g, and S is what it is made of. -/
structure GA (w : World) (gb : Nat) (g : Tg.Gt) (S : Nat → Prop) : Prop where
  ex : ∃ tv rs ns, PG w gb g tv rs ns ∧ S = PS gb tv rs ns
  ok : Tg.GtOk g
  quiet : Tg.Quiet g.room g.pass g.all

/-- What a call on a gate leaves. -/
def GS (w : World) (S : Nat → Prop) (gb : Nat) (g' : Tg.Gt) (w' : World) : Prop := ∃ S', GA w' gb g' S' ∧ Tch S w w' ∧ ∀ k, S' k → S k ∨ w.heap.size ≤ k

section
variable {w w' : World} {gb : Nat} {g : Tg.Gt} {S : Nat → Prop}

theorem GA.lt (h : GA w gb g S) : ∀ k, S k → k < w.heap.size := by
  obtain ⟨tv, rs, ns, hp, rfl⟩ := h.ex
  exact hp.ph.lt
theorem GA.keep (h : GA w gb g S) (hk : ∀ k, S k → w'.heap[k]? = w.heap[k]?) : GA w' gb g S := by
  obtain ⟨tv, rs, ns, hp, rfl⟩ := h.ex
  exact ⟨⟨tv, rs, ns, ⟨hp.ph.keep hk, hp.rel⟩, rfl⟩, h.ok, h.quiet⟩
theorem GA.tch {T : Nat → Prop} (h : GA w gb g S) (ht : Tch T w w') (hs : ∀ k, S k → ¬ T k) : GA w' gb g S := h.keep fun k hk => ht.block k (h.lt k hk) (hs k hk)
theorem GA.drewN (h : GA w gb g S) (n : Nat) : GA (w.drewN n) gb g S := h.keep fun _ _ => rfl
theorem GA.alloc (h : GA w gb g S) (o : Obj) : GA (w.alloc o) gb g S := h.keep fun k hk => Below.heap_alloc _ _ _ (h.lt k hk)

theorem GS.of {tv tv' : Value} {rs rs' : List Rc} {ns ns' : List Nd} {g' : Tg.Gt} (h : Left1 w gb tv rs ns w' g' tv' rs' ns') (ok : Tg.GtOk g') (q : Tg.Quiet g'.room g'.pass g'.all) : GS w (PS gb tv rs ns) gb g' w' :=
  ⟨_, ⟨⟨tv', rs', ns', h.pg, rfl⟩, ok, q⟩, h.tch, h.sub⟩

theorem ga_new (room pass : Int) (h1 : 0 ≤ room ∧ room ≤ 1000) (h2 : 0 ≤ pass ∧ pass ≤ 20) (w : World) :
    Calls Try.prog 26 #[.int .i64 room, .int .i64 pass] w fun e w' => e = .returned (.tuple #[.pointer (some ⟨w.heap.size, 0, none⟩), .int .i64 0]) ∧
      ∃ S, GA w' w.heap.size (Tg.fresh room pass) S ∧ Tch (fun _ => False) w w' ∧ ∀ k, S k → w.heap.size ≤ k := by
  have he : Tg.newErr room pass = 0 := by unfold Tg.newErr; rw [if_neg (by simpa using h1), if_neg (by simpa using h2)]
  refine (new_call room pass w).mono ?_
  rintro e w' (⟨_, rfl, hp, ht⟩ | ⟨hn, _⟩)
  · refine ⟨rfl, _, ⟨⟨_, _, _, hp, rfl⟩, Tg.fresh_ok _ _ he, Or.inl rfl⟩, ht, fun k hk => ?_⟩
    rcases hk with rfl | x | ⟨r, hr, _⟩ | ⟨r, hr, _⟩ | ⟨n, hn, _⟩
    · exact Nat.le_refl _
    · simp [Value.ownBlock] at x
    · simp at hr
    · simp at hr
    · simp at hn
  · exact absurd he hn

theorem ask_quiet' (g : Tg.Gt) (h : Tg.Quiet g.room g.pass g.all) (weight band wait : Int) : Tg.Quiet (Tg.ask g weight band wait).1.room (Tg.ask g weight band wait).1.pass (Tg.ask g weight band wait).1.all := by
  unfold Tg.ask; split
  · exact Tg.letIn_quiet _ _ _
  · exact h
theorem change_quiet' (g : Tg.Gt) (h : Tg.Quiet g.room g.pass g.all) (n s s' : Int) : Tg.Quiet (Tg.change g n s s').1.room (Tg.change g n s s').1.pass (Tg.change g n s s').1.all := by
  unfold Tg.change; split
  · split
    · exact Tg.letIn_quiet _ _ _
    · exact h
  · exact h
theorem resize_quiet' (g : Tg.Gt) (h : Tg.Quiet g.room g.pass g.all) (n : Int) : Tg.Quiet (Tg.resize g n).1.room (Tg.resize g n).1.pass (Tg.resize g n).1.all := by
  unfold Tg.resize; split
  · exact Tg.letIn_quiet _ _ _
  · exact h

theorem ga_ask (h : GA w gb g S) (weight band wait : Int) (hn : g.all.length + 1 ≤ 10000000000000) (ht : g.time ≤ 4611686018427387904) :
    Calls Try.prog 19 #[.pointer (some ⟨gb, 0, none⟩), .int .i64 weight, .int .i64 band, .int .i64 wait] w fun e w' =>
      e = .returned (.tuple #[.int .i64 (Tg.ask g weight band wait).2.1, .int .i64 (Tg.ask g weight band wait).2.2.1, .int .i64 (Tg.ask g weight band wait).2.2.2]) ∧ GS w S gb (Tg.ask g weight band wait).1 w' := by
  obtain ⟨tv, rs, ns, hp, rfl⟩ := h.ex
  refine (ask_call hp h.ok h.quiet weight band wait hn ht).mono ?_
  rintro e w' ⟨he, tv', rs', ns', L⟩
  exact ⟨he, GS.of L (Tg.ask_ok _ _ _ _ h.ok) (ask_quiet' _ h.quiet _ _ _)⟩
theorem ga_give (h : GA w gb g S) (n : Int) (hn : g.all.length ≤ 10000000000000) :
    Calls Try.prog 27 #[.pointer (some ⟨gb, 0, none⟩), .int .i64 n] w fun e w' => e = .returned (.int .i64 (Tg.change g n 2 6).2) ∧ GS w S gb (Tg.change g n 2 6).1 w' := by
  obtain ⟨tv, rs, ns, hp, rfl⟩ := h.ex
  refine (give_call hp h.ok n hn).mono ?_
  rintro e w' ⟨he, rs', ns', L⟩
  exact ⟨he, GS.of L (Tg.change_ok _ _ _ _ h.ok (by omega) (by omega)) (change_quiet' _ h.quiet _ _ _)⟩
theorem ga_cancel (h : GA w gb g S) (n : Int) (hn : g.all.length ≤ 10000000000000) :
    Calls Try.prog 28 #[.pointer (some ⟨gb, 0, none⟩), .int .i64 n] w fun e w' => e = .returned (.int .i64 (Tg.change g n 1 5).2) ∧ GS w S gb (Tg.change g n 1 5).1 w' := by
  obtain ⟨tv, rs, ns, hp, rfl⟩ := h.ex
  refine (cancel_call hp h.ok n hn).mono ?_
  rintro e w' ⟨he, rs', ns', L⟩
  exact ⟨he, GS.of L (Tg.change_ok _ _ _ _ h.ok (by omega) (by omega)) (change_quiet' _ h.quiet _ _ _)⟩
theorem ga_tick (h : GA w gb g S) (hn : g.all.length ≤ 10000000000000) (ht : g.time ≤ 4611686018427387904) :
    Calls Try.prog 20 #[.pointer (some ⟨gb, 0, none⟩)] w fun e w' => e = .returned (.tuple #[]) ∧ GS w S gb (Tg.tick g) w' := by
  obtain ⟨tv, rs, ns, hp, rfl⟩ := h.ex
  refine (tick_call hp h.ok hn ht).mono ?_
  rintro e w' ⟨he, rs', ns', L⟩
  exact ⟨he, GS.of L (Tg.tick_ok _ h.ok) (Tg.letIn_quiet _ _ _)⟩
theorem ga_resize (h : GA w gb g S) (n : Int) (hn : g.all.length ≤ 10000000000000) :
    Calls Try.prog 22 #[.pointer (some ⟨gb, 0, none⟩), .int .i64 n] w fun e w' => e = .returned (.int .i64 (Tg.resize g n).2) ∧ GS w S gb (Tg.resize g n).1 w' := by
  obtain ⟨tv, rs, ns, hp, rfl⟩ := h.ex
  refine (resize_call hp h.ok n hn).mono ?_
  rintro e w' ⟨he, rs', ns', L⟩
  exact ⟨he, GS.of L (Tg.resize_ok _ _ h.ok) (resize_quiet' _ h.quiet _)⟩
theorem ga_state (h : GA w gb g S) (n : Int) :
    Calls Try.prog 23 #[.pointer (some ⟨gb, 0, none⟩), .int .i64 n] w fun e w' => e = .returned (.tuple #[.int .i64 (Tg.stateOf g.all n).1, .int .i64 (Tg.stateOf g.all n).2]) ∧ GA w' gb g S ∧ Tch S w w' := by
  obtain ⟨tv, rs, ns, hp, rfl⟩ := h.ex
  refine (state_call hp n).mono ?_
  rintro e w' ⟨he, hp', ht⟩
  exact ⟨he, ⟨⟨tv, rs, ns, hp', rfl⟩, h.ok, h.quiet⟩, ht⟩
theorem ga_held (h : GA w gb g S) :
    Calls Try.prog 18 #[.pointer (some ⟨gb, 0, none⟩)] w fun e w' => e = .returned (.int .i64 (Tg.held g.all)) ∧ GA w' gb g S ∧ Tch S w w' := by
  obtain ⟨tv, rs, ns, hp, rfl⟩ := h.ex
  refine (held_any hp).mono ?_
  rintro e w' ⟨he, hp', ht⟩
  exact ⟨he, ⟨⟨tv, rs, ns, hp', rfl⟩, h.ok, h.quiet⟩, ht⟩
theorem ga_queue (h : GA w gb g S) (hn : g.all.length ≤ 10000000000000) :
    Calls Try.prog 16 #[.pointer (some ⟨gb, 0, none⟩)] w fun e w' => ∃ v, e = .returned v ∧ w'.ownsRow 0 3 1 v (Tg.queueL g.pass g.all).length (ivs (Tg.queueL g.pass g.all)) ∧ NewRow w v ∧ (∀ k, v.ownBlock = some k → ¬ S k) ∧ GA w' gb g S ∧ Tch S w w' := by
  obtain ⟨tv, rs, ns, hp, rfl⟩ := h.ex
  refine (queue_call hp h.ok hn).mono ?_
  rintro e w' ⟨v, he, ho, hnew, hap, L⟩
  rw [Tg.queue_eq] at ho
  exact ⟨v, he, ho, hnew, hap, ⟨⟨tv, rs, ns, L.pg, rfl⟩, h.ok, h.quiet⟩, L.tch⟩
end

end Go.Proofs.Ytihijgjihfadoaa
