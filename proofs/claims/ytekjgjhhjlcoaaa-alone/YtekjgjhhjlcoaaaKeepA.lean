import Derived.Test.YtekjgjhhjlcoaaaPrgR
import Derived.Deep.DeepAppendWide
namespace Go.Proofs.Ytekjgjhhjlcoaaa
open Go.RowKit Go.Conc

/-- append onto an owned row, as run_append_own2, with the bound that growing itself has. -/
theorem run_append_own3 {P : Program} (w : World) (t ty e : TypeId) (i : TypeInfo) (z : Value) (size bytes : Nat) (ht : P.underlying t = some (.slice e)) (hi : P.info? e = some i) (hz : i.zero = some z)
    (hsize : i.size = size) (hby : i.bytes = bytes) (hzs : z.cells.size = size) (hsz : 0 < size)
    (v : Value) (n : Nat) (xs : List Value) (hown : w.ownsRow 0 e size v n xs)
    (a : Addr) (m c : Nat) (news : List Value) (hl : news.length = m * size) (hnews : ∀ j u, news[j]? = some u → w.cell? (a.add j) = some u) (h1 : ∀ u ∈ news, u.oneCell' = true)
    (h63 : n + m ≤ maxLen) (hbytes : ((n + m) + (n + m) / 4 + 192) * bytes ≤ 281474976710656) :
    ∃ v' w', (Builtin.append_ #[t, t] ty #[v, .slice (some a) m c]).run P w = .ok v' w' ∧ w'.ownsRow 0 e size v' (n + m) (xs ++ news) ∧ w.grownBy w' v.ownBlock ∧ Moved w v v' := by
  rcases hown.2 with ⟨rfl, rfl⟩ | ⟨g, cap, cur, rfl, hbg, hg, hnc, hcm, hcs, htake⟩
  · obtain ⟨v', w', r1, r2, r3, _⟩ := run_append_own_wide (P := P) w w.heap.size t ty e i z size bytes ht hi hz hsize hby hzs hsz _ 0 xs ⟨hown.1, Or.inl ⟨rfl, rfl⟩⟩ a m c news hl hnews h1 h63 hbytes (Nat.le_refl _)
    refine ⟨v', w', r1, ⟨r2.1, ?_⟩, r3, ?_⟩
    · rcases r2.2 with h2 | ⟨g, cap, cur, hv, _, r⟩
      · exact Or.inl h2
      · exact Or.inr ⟨g, cap, cur, hv, Nat.zero_le _, r⟩
    · rcases r2.2 with ⟨h2, _⟩ | ⟨g, cap, cur, hv, hg, _⟩
      · exact Or.inl (by rw [h2])
      · exact Or.inr ⟨g, by rw [hv]; rfl, hg⟩
  · by_cases hroom : n + m ≤ cap
    · obtain ⟨w', r1, r2, r3⟩ := run_append_fits (P := P) w 0 t ty e i size ht hi hsize g n cap xs hown a m c news hl hnews h1 hroom
      exact ⟨_, w', r1, r2, r3, Or.inl rfl⟩
    · obtain ⟨v', w', r1, r2, r3, _⟩ := run_append_own_wide (P := P) w 0 t ty e i z size bytes ht hi hz hsize hby hzs hsz _ n xs hown a m c news hl hnews h1 h63 hbytes (Nat.zero_le _)
      subst hsize hby
      have r4 := run_append_grow (P := P) w t ty e i z ht hi hz ⟨g, 0, none⟩ n cap xs hown.1 (hown.cells (g := g) rfl) a m c news hl hnews (by omega) (by unfold maxLen at h63; omega) (growslice_fits_wide (by omega) hbytes)
      rw [r4] at r1
      simp only [Result.ok.injEq] at r1
      exact ⟨v', w', by rw [r4, r1.1, r1.2], r2, r3, Or.inr ⟨w.heap.size, by rw [← r1.1]; rfl, Nat.le_refl _⟩⟩

theorem wpList_append_own3 {P : Program} {ops : Array Oper} {rest : List Oper} {o : Oper} {a : Act} {w : World} {Q : Exit → Act → World → Prop} (hgd : o.guard = none) (s x : Operand) (t : TypeId)
    (ho : o.op = .call { callee := .builtin .append, args := #[s, x], argTypes := #[t, t] })
    (e : TypeId) (i : TypeInfo) (z : Value) (size bytes : Nat) (ht : P.underlying t = some (.slice e)) (hi : P.info? e = some i) (hz : i.zero = some z)
    (hsize : i.size = size) (hby : i.bytes = bytes) (hzs : z.cells.size = size) (hsz : 0 < size)
    (v : Value) (n : Nat) (xs : List Value) (hs : a.eval s = v) (hown : w.ownsRow 0 e size v n xs)
    (ad : Addr) (m c : Nat) (news : List Value) (hx : a.eval x = .slice (some ad) m c) (hl : news.length = m * size) (hnews : ∀ j u, news[j]? = some u → w.cell? (ad.add j) = some u) (h1 : ∀ u ∈ news, u.oneCell' = true)
    (h63 : n + m ≤ maxLen) (hbytes : ((n + m) + (n + m) / 4 + 192) * bytes ≤ 281474976710656)
    (h : ∀ v' w', w'.ownsRow 0 e size v' (n + m) (xs ++ news) → w.grownBy w' v.ownBlock → Moved w v v' → wpList P ops Q rest (a.put o.dst v') w') : wpList P ops Q (o :: rest) a w := by
  refine wpList_plain hgd fun K hK => ?_
  obtain ⟨v', w', hr, h2, h3, h4⟩ := run_append_own3 (P := P) w t o.type e i z size bytes ht hi hz hsize hby hzs hsz v n xs hown ad m c news hl hnews h1 h63 hbytes
  unfold Oper.wp execOp
  simp only [ho, resolve, invoke, builtin, Sem.run_bind, Sem.run_pure, Result.andThen_ok, List.map_toArray, List.map_cons, List.map_nil, hs, hx, hr]
  exact hK _ _ (h v' w' h2 h3 h4)

/-- Which of n numbers a raw number speaks of. -/
def pk (c : Int) (n : Nat) : Nat := ((if c < 0 then -(c + 1) else c).tmod (n : Int)).toNat

theorem pk_lt (c : Int) (n : Nat) (hn : 0 < n) : pk c n < n := by
  unfold pk
  have a := Int.tmod_lt_of_pos (if c < 0 then -(c + 1) else c) (show (0 : Int) < n by omega)
  omega

theorem pk_eq (c : Int) (n : Nat) : ((pk c n : Nat) : Int) = (if c < 0 then -(c + 1) else c).tmod (n : Int) := by
  unfold pk
  have b := Int.tmod_nonneg (n : Int) (show 0 ≤ (if c < 0 then -(c + 1) else c) by split <;> omega)
  omega

theorem kpick_any (c : Int) (n : Nat) (hn : 0 < n) (hn2 : n ≤ 4611686018427387904) (h1 : -9223372036854775808 ≤ c) (h2 : c ≤ 9223372036854775807) (w : World) :
    Calls Try.prog 14 #[.int .i64 c, .int .i64 (n : Int)] w fun e w' => e = .returned (.int .i64 (pk c n : Int)) ∧ w' = w := by
  have hn0 : ¬ (n : Int) = 0 := by omega
  have e := pk_eq c n
  have hl := pk_lt c n hn
  by_cases hc : c < 0
  · rw [if_pos hc] at e
    generalize pk c n = r at e hl
    have e' := e.symm
    clear e
    go_enter Try.func14, Try.ntmps14
    go_wp2
    all_goals go_ret
    all_goals exact ⟨rfl, rfl⟩
  · rw [if_neg hc] at e
    generalize pk c n = r at e hl
    have e' := e.symm
    clear e
    go_enter Try.func14, Try.ntmps14
    go_wp2
    all_goals go_ret
    all_goals exact ⟨rfl, rfl⟩

/-- A gate of the program as one thing: it is the model's gate g, and S is what it is made of. -/
structure GAr (rd : Option Int) (w : World) (gb : Nat) (g : Tg.Gt) (S : Nat → Prop) : Prop where
  ex : ∃ tv rs ns, PG rd w gb g tv rs ns ∧ S = PS gb tv rs ns
  ok : Tg.GtOk g
  quiet : Tg.Quiet g.room g.pass g.all

/-- What a call on a gate leaves. -/
def GSr (rd : Option Int) (w : World) (S : Nat → Prop) (gb : Nat) (g' : Tg.Gt) (w' : World) : Prop := ∃ S', GAr rd w' gb g' S' ∧ Tch S w w' ∧ ∀ k, S' k → S k ∨ w.heap.size ≤ k
/-- A gate that is no hall's. -/
abbrev GA := GAr none
abbrev GS := GSr none

section
variable {rd : Option Int} {w w' : World} {gb : Nat} {g : Tg.Gt} {S : Nat → Prop}

theorem GAr.lt (h : GAr rd w gb g S) : ∀ k, S k → k < w.heap.size := by
  obtain ⟨tv, rs, ns, hp, rfl⟩ := h.ex
  exact hp.ph.lt
theorem GAr.keep (h : GAr rd w gb g S) (hk : ∀ k, S k → w'.heap[k]? = w.heap[k]?) : GAr rd w' gb g S := by
  obtain ⟨tv, rs, ns, hp, rfl⟩ := h.ex
  exact ⟨⟨tv, rs, ns, ⟨hp.ph.keep hk, hp.rel⟩, rfl⟩, h.ok, h.quiet⟩
theorem GAr.tch {T : Nat → Prop} (h : GAr rd w gb g S) (ht : Tch T w w') (hs : ∀ k, S k → ¬ T k) : GAr rd w' gb g S := h.keep fun k hk => ht.block k (h.lt k hk) (hs k hk)
theorem GAr.drewN (h : GAr rd w gb g S) (n : Nat) : GAr rd (w.drewN n) gb g S := h.keep fun _ _ => rfl
theorem GAr.alloc (h : GAr rd w gb g S) (o : Obj) : GAr rd (w.alloc o) gb g S := h.keep fun k hk => Below.heap_alloc _ _ _ (h.lt k hk)

theorem GSr.of {tv tv' : Value} {rs rs' : List Rc} {ns ns' : List Nd} {g' : Tg.Gt} (h : Left1 rd w gb tv rs ns w' g' tv' rs' ns') (ok : Tg.GtOk g') (q : Tg.Quiet g'.room g'.pass g'.all) : GSr rd w (PS gb tv rs ns) gb g' w' :=
  ⟨_, ⟨⟨tv', rs', ns', h.pg, rfl⟩, ok, q⟩, h.tch, h.sub⟩

theorem ga_new (room pass : Int) (h1 : 0 ≤ room ∧ room ≤ 1000) (h2 : 0 ≤ pass ∧ pass ≤ 20) (w : World) :
    Calls Try.prog 34 #[.int .i64 room, .int .i64 pass] w fun e w' => e = .returned (.tuple #[.pointer (some ⟨w.heap.size, 0, none⟩), .int .i64 0]) ∧
      ∃ S, GA w' w.heap.size (Tg.fresh room pass) S ∧ Tch (fun _ => False) w w' ∧ ∀ k, S k → w.heap.size ≤ k := by
  have he : Tg.newErr room pass = 0 := by unfold Tg.newErr; rw [if_neg (by simpa using h1), if_neg (by simpa using h2)]
  refine (new_call room pass w).mono ?_
  rintro e w' (⟨_, rfl, hp, ht⟩ | ⟨hn, _⟩)
  · refine ⟨rfl, _, ⟨⟨_, _, _, hp, rfl⟩, Tg.fresh_ok _ _ he, Or.inl rfl⟩, ht, fun k hk => ?_⟩
    rcases hk with rfl | x | ⟨r, hr, _⟩ | ⟨r, hr, _⟩ | ⟨n, hn, _⟩
    · exact Nat.le_refl _
    · simp [Value.ownBlock] at x
    · simp at hr
    · simp at hr
    · simp at hn
  · exact absurd he hn

theorem ask_quiet' (g : Tg.Gt) (h : Tg.Quiet g.room g.pass g.all) (weight band wait : Int) : Tg.Quiet (Tg.ask g weight band wait).1.room (Tg.ask g weight band wait).1.pass (Tg.ask g weight band wait).1.all := by
  unfold Tg.ask; split
  · exact Tg.letIn_quiet _ _ _
  · exact h
theorem change_quiet' (g : Tg.Gt) (h : Tg.Quiet g.room g.pass g.all) (n s s' : Int) : Tg.Quiet (Tg.change g n s s').1.room (Tg.change g n s s').1.pass (Tg.change g n s s').1.all := by
  unfold Tg.change; split
  · split
    · exact Tg.letIn_quiet _ _ _
    · exact h
  · exact h
theorem resize_quiet' (g : Tg.Gt) (h : Tg.Quiet g.room g.pass g.all) (n : Int) : Tg.Quiet (Tg.resize g n).1.room (Tg.resize g n).1.pass (Tg.resize g n).1.all := by
  unfold Tg.resize; split
  · exact Tg.letIn_quiet _ _ _
  · exact h

theorem ga_ask (h : GAr rd w gb g S) (weight band wait : Int) (hn : g.all.length + 1 ≤ 10000000000000) (ht : g.time ≤ 4611686018427387904) :
    Calls Try.prog 21 #[.pointer (some ⟨gb, 0, none⟩), .int .i64 weight, .int .i64 band, .int .i64 wait] w fun e w' =>
      e = .returned (.tuple #[.int .i64 (Tg.ask g weight band wait).2.1, .int .i64 (Tg.ask g weight band wait).2.2.1, .int .i64 (Tg.ask g weight band wait).2.2.2]) ∧ GSr rd w S gb (Tg.ask g weight band wait).1 w' := by
  obtain ⟨tv, rs, ns, hp, rfl⟩ := h.ex
  refine (ask_call hp h.ok h.quiet weight band wait hn ht).mono ?_
  rintro e w' ⟨he, tv', rs', ns', L⟩
  exact ⟨he, GSr.of L (Tg.ask_ok _ _ _ _ h.ok) (ask_quiet' _ h.quiet _ _ _)⟩
theorem ga_give (h : GAr rd w gb g S) (n : Int) (hn : g.all.length ≤ 10000000000000) :
    Calls Try.prog 29 #[.pointer (some ⟨gb, 0, none⟩), .int .i64 n] w fun e w' => e = .returned (.int .i64 (Tg.change g n 2 6).2) ∧ GSr rd w S gb (Tg.change g n 2 6).1 w' := by
  obtain ⟨tv, rs, ns, hp, rfl⟩ := h.ex
  refine (give_call hp h.ok n hn).mono ?_
  rintro e w' ⟨he, rs', ns', L⟩
  exact ⟨he, GSr.of L (Tg.change_ok _ _ _ _ h.ok (by omega) (by omega)) (change_quiet' _ h.quiet _ _ _)⟩
theorem ga_cancel (h : GAr rd w gb g S) (n : Int) (hn : g.all.length ≤ 10000000000000) :
    Calls Try.prog 30 #[.pointer (some ⟨gb, 0, none⟩), .int .i64 n] w fun e w' => e = .returned (.int .i64 (Tg.change g n 1 5).2) ∧ GSr rd w S gb (Tg.change g n 1 5).1 w' := by
  obtain ⟨tv, rs, ns, hp, rfl⟩ := h.ex
  refine (cancel_call hp h.ok n hn).mono ?_
  rintro e w' ⟨he, rs', ns', L⟩
  exact ⟨he, GSr.of L (Tg.change_ok _ _ _ _ h.ok (by omega) (by omega)) (change_quiet' _ h.quiet _ _ _)⟩
theorem ga_tick (h : GAr rd w gb g S) (hn : g.all.length ≤ 10000000000000) (ht : g.time ≤ 4611686018427387904) :
    Calls Try.prog 22 #[.pointer (some ⟨gb, 0, none⟩)] w fun e w' => e = .returned (.tuple #[]) ∧ GSr rd w S gb (Tg.tick g) w' := by
  obtain ⟨tv, rs, ns, hp, rfl⟩ := h.ex
  refine (tick_call hp h.ok hn ht).mono ?_
  rintro e w' ⟨he, rs', ns', L⟩
  exact ⟨he, GSr.of L (Tg.tick_ok _ h.ok) (Tg.letIn_quiet _ _ _)⟩
theorem ga_resize (h : GAr rd w gb g S) (n : Int) (hn : g.all.length ≤ 10000000000000) :
    Calls Try.prog 24 #[.pointer (some ⟨gb, 0, none⟩), .int .i64 n] w fun e w' => e = .returned (.int .i64 (Tg.resize g n).2) ∧ GSr rd w S gb (Tg.resize g n).1 w' := by
  obtain ⟨tv, rs, ns, hp, rfl⟩ := h.ex
  refine (resize_call hp h.ok n hn).mono ?_
  rintro e w' ⟨he, rs', ns', L⟩
  exact ⟨he, GSr.of L (Tg.resize_ok _ _ h.ok) (resize_quiet' _ h.quiet _)⟩
theorem ga_state (h : GAr rd w gb g S) (n : Int) :
    Calls Try.prog 25 #[.pointer (some ⟨gb, 0, none⟩), .int .i64 n] w fun e w' => e = .returned (.tuple #[.int .i64 (Tg.stateOf g.all n).1, .int .i64 (Tg.stateOf g.all n).2]) ∧ GAr rd w' gb g S ∧ Tch S w w' := by
  obtain ⟨tv, rs, ns, hp, rfl⟩ := h.ex
  refine (state_call hp n).mono ?_
  rintro e w' ⟨he, hp', ht⟩
  exact ⟨he, ⟨⟨tv, rs, ns, hp', rfl⟩, h.ok, h.quiet⟩, ht⟩
theorem ga_held (h : GAr rd w gb g S) :
    Calls Try.prog 20 #[.pointer (some ⟨gb, 0, none⟩)] w fun e w' => e = .returned (.int .i64 (Tg.held g.all)) ∧ GAr rd w' gb g S ∧ Tch S w w' := by
  obtain ⟨tv, rs, ns, hp, rfl⟩ := h.ex
  refine (held_any hp).mono ?_
  rintro e w' ⟨he, hp', ht⟩
  exact ⟨he, ⟨⟨tv, rs, ns, hp', rfl⟩, h.ok, h.quiet⟩, ht⟩
theorem ga_queue (h : GAr rd w gb g S) (hn : g.all.length ≤ 10000000000000) :
    Calls Try.prog 18 #[.pointer (some ⟨gb, 0, none⟩)] w fun e w' => ∃ v, e = .returned v ∧ w'.ownsRow 0 3 1 v (Tg.queueL g.pass g.all).length (ivs (Tg.queueL g.pass g.all)) ∧ NewRow w v ∧ (∀ k, v.ownBlock = some k → ¬ S k) ∧ GAr rd w' gb g S ∧ Tch S w w' := by
  obtain ⟨tv, rs, ns, hp, rfl⟩ := h.ex
  refine (queue_call hp h.ok hn).mono ?_
  rintro e w' ⟨v, he, ho, hnew, hap, L⟩
  rw [Tg.queue_eq] at ho
  exact ⟨v, he, ho, hnew, hap, ⟨⟨tv, rs, ns, L.pg, rfl⟩, h.ok, h.quiet⟩, L.tch⟩
end

def I64 (x : Int) : Prop := -9223372036854775808 ≤ x ∧ x ≤ 9223372036854775807

/-- The acts as they lie in memory: four numbers each, from an address on, below N. -/
structure Acts (w : World) (N : Nat) (sv : Value) (ls : List (Int × Int × Int × Int)) : Prop where
  form : ∃ ao cap, sv = .slice ao ls.length cap ∧ ls.length ≤ 4398046510976 ∧ ∀ k (hk : k < ls.length), ∃ ab off, ab < N ∧ ao = some ⟨ab, off, none⟩ ∧
    w.cell? ⟨ab, off + k * 4, none⟩ = some (.int .i64 ls[k].1) ∧ w.cell? ⟨ab, off + k * 4 + 1, none⟩ = some (.int .i64 ls[k].2.1) ∧ w.cell? ⟨ab, off + k * 4 + 2, none⟩ = some (.int .i64 ls[k].2.2.1) ∧
    w.cell? ⟨ab, off + k * 4 + 3, none⟩ = some (.int .i64 ls[k].2.2.2) ∧ I64 ls[k].1 ∧ I64 ls[k].2.1 ∧ I64 ls[k].2.2.1 ∧ I64 ls[k].2.2.2

theorem below_cellK {N : Nat} {w0 w : World} (h : Below N w0 w) {ab o : Nat} (hb : ab < N) : w.cell? ⟨ab, o, none⟩ = w0.cell? ⟨ab, o, none⟩ := World.cell?_of_block (h.block ab hb)

end Go.Proofs.Ytekjgjhhjlcoaaa
