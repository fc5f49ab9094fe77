import Derived.Test.YtekjgjhhjlcoaaaLawA
namespace Go.Proofs.Ytekjgjhhjlcoaaa
open Go.RowKit Go.Conc

def pv (p : Pr) : Value := .agg #[.pointer (px p), .pointer (phl p), .pointer (some ⟨p.b, 0, none⟩), .int .i64 (pnm p)]

theorem PG.alloc {rd : Option Int} {w : World} {gb : Nat} {g : Tg.Gt} {tv : Value} {rs : List Rc} {ns : List Nd} (h : PG rd w gb g tv rs ns) (o : Obj) : PG rd (w.alloc o) gb g tv rs ns := ⟨h.ph.alloc o, h.rel⟩
theorem PrOk.alloc {N B : Nat} {w : World} {p : Pr} (h : PrOk N B w p) (o : Obj) : PrOk N B (w.alloc o) p := h.keep fun k hk => Below.heap_alloc _ _ _ (h.lt k hk)

theorem px_none {p : Pr} (h : p.rd = none) : px p = some ⟨p.gb, 0, none⟩ := by unfold px; rw [h]
theorem phl_none {p : Pr} (h : p.rd = none) : phl p = none := by unfold phl; rw [h]
theorem px_some {p : Pr} {n : Int} (h : p.rd = some n) : px p = none := by unfold px; rw [h]
theorem phl_some {p : Pr} {n : Int} (h : p.rd = some n) : phl p = some ⟨p.gb, 0, none⟩ := by unfold phl; rw [h]
theorem pnm_some {p : Pr} {n : Int} (h : p.rd = some n) : pnm p = n := by unfold pnm; rw [h]; rfl

/-- What a call on a pair does. -/
structure Chg (N B : Nat) (w : World) (p : Pr) (w' : World) (p' : Pr) : Prop where
  rd : p'.rd = p.rd
  gb : p'.gb = p.gb
  b : p'.b = p.b
  tch : Tch (FP p) w w'
  ok : PrOk N B w' p'
  sub : ∀ k, FP p' k → FP p k ∨ w.heap.size ≤ k

section
variable {N B B' : Nat} {w w1 w2 : World} {p : Pr}

/-- The program's call, then the document's. -/
theorem PrOk.both (h : PrOk N B w p) (hN : N ≤ w.heap.size) {g' : Tg.Gt} {tv' rv' : Value} {rs' : List Rc} {ns' : List Nd} (L : Left1 p.rd w p.gb p.tv p.rs p.ns w1 g' tv' rs' ns')
    (hr : RG w2 p.b g' rv') (ht : Tch (RGs p.b p.rv) w1 w2) (hm : Moved w1 p.rv rv') (ok' : Tg.GtOk g') (q' : Tg.Quiet g'.room g'.pass g'.all) (l' : g'.all.length ≤ B') (t' : g'.time ≤ B') :
    Chg N B' w p w2 ⟨p.rd, p.gb, p.b, g', tv', rv', rs', ns'⟩ := by
  have rlt : ∀ k, RGs p.b p.rv k → k < w.heap.size := fun k hk => h.rg.lt k hk
  have sub : ∀ k, FP ⟨p.rd, p.gb, p.b, g', tv', rv', rs', ns'⟩ k → FP p k ∨ w.heap.size ≤ k := by
    intro k hk
    rcases hk with x | x
    · rcases L.sub k x with y | y
      · exact Or.inl (Or.inl y)
      · exact Or.inr y
    · rcases hm.sub x with y | y
      · exact Or.inl (Or.inr y)
      · have := L.tch.size; exact Or.inr (by omega)
  refine ⟨rfl, rfl, rfl, ?_, ⟨⟨L.pg.ph.keep fun k hk => ht.block k (L.pg.ph.lt k hk) fun x => ?_, L.pg.rel⟩, hr, ok', q', fun k hk => ?_, l', t'⟩, sub⟩
  · exact (L.tch.mono fun k hk => Or.inl hk).trans (ht.mono fun k hk => Or.inr hk)
  · rcases L.sub k hk with y | y
    · exact h.apart y x
    · have := rlt k x; omega
  · rcases sub k hk with y | y
    · exact h.low k y
    · omega

theorem PrOk.rgKeep (h : PrOk N B w p) (ht : Tch (PS p.gb p.tv p.rs p.ns) w w1) : RG w1 p.b p.g p.rv := h.rg.tch ht fun _ hk x => h.apart x hk

theorem Moved.same (w : World) (v : Value) : Moved w v v := Or.inl rfl

theorem Left1.grow {rd : Option Int} {gb : Nat} {tv : Value} {rs : List Rc} {ns : List Nd} {g' : Tg.Gt} {tv' : Value} {rs' : List Rc} {ns' : List Nd} (h0 : Tch (fun _ => False) w w1) (L : Left1 rd w1 gb tv rs ns w2 g' tv' rs' ns') : Left1 rd w gb tv rs ns w2 g' tv' rs' ns' :=
  ⟨L.pg, (h0.mono fun _ x => x.elim).trans L.tch, fun k hk => by
    rcases L.sub k hk with x | x
    · exact Or.inl x
    · have := h0.size; exact Or.inr (by omega)⟩

theorem Chg.grow {p' : Pr} (h0 : Tch (fun _ => False) w w1) (L : Chg N B w1 p w2 p') : Chg N B w p w2 p' :=
  ⟨L.rd, L.gb, L.b, (h0.mono fun _ x => x.elim).trans L.tch, L.ok, fun k hk => by
    rcases L.sub k hk with x | x
    · exact Or.inl x
    · have := h0.size; exact Or.inr (by omega)⟩

set_option maxHeartbeats 400000 in
theorem pstate_any (h : PrOk N B w p) (n : Int) :
    Calls Try.prog 58 #[pv p, .int .i64 n] w fun e w' => e = .returned (.tuple #[.int .i64 (Tg.stateOf p.g.all n).1, .int .i64 (Tg.stateOf p.g.all n).2]) ∧ Left1 p.rd w p.gb p.tv p.rs p.ns w' p.g p.tv p.rs p.ns := by
  have HC := state_call (h.pg.alloc (.cells #[.pointer (px p), .pointer (phl p), .pointer (some ⟨p.b, 0, none⟩), .int .i64 (pnm p)] 100)) n
  unfold pv
  obtain ⟨rd, gb, b, g, tv, rv, rs, ns⟩ := p
  cases rd with
  | none =>
    simp only [px, phl, pnm] at HC ⊢
    go_enter Try.func58, Try.ntmps58
    go_wp2_with (go_at_call 25; refine HC.mono ?_; rintro e w' ⟨rfl, hp, ht⟩)
    go_ret2
    exact ⟨rfl, hp, ((Tch.refl _ _).alloc _).trans ht, fun k hk => Or.inl hk⟩
  | some n =>
    simp only [px, phl, pnm] at HC ⊢
    go_enter Try.func58, Try.ntmps58
    go_wp2_with (go_at_call 25; refine HC.mono ?_; rintro e w' ⟨rfl, hp, ht⟩)
    go_ret2
    exact ⟨rfl, hp, ((Tch.refl _ _).alloc _).trans ht, fun k hk => Or.inl hk⟩

set_option maxHeartbeats 400000 in
theorem pheld_any (h : PrOk N B w p) :
    Calls Try.prog 63 #[pv p] w fun e w' => e = .returned (.int .i64 (Tg.held p.g.all)) ∧ Left1 p.rd w p.gb p.tv p.rs p.ns w' p.g p.tv p.rs p.ns := by
  have HC := held_any (h.pg.alloc (.cells #[.pointer (px p), .pointer (phl p), .pointer (some ⟨p.b, 0, none⟩), .int .i64 (pnm p)] 100))
  unfold pv
  obtain ⟨rd, gb, b, g, tv, rv, rs, ns⟩ := p
  cases rd with
  | none =>
    simp only [px, phl, pnm] at HC ⊢
    go_enter Try.func63, Try.ntmps63
    go_wp2_with (go_at_call 20; refine HC.mono ?_; rintro e w' ⟨rfl, hp, ht⟩)
    go_ret
    exact ⟨rfl, hp, ((Tch.refl _ _).alloc _).trans ht, fun k hk => Or.inl hk⟩
  | some n =>
    simp only [px, phl, pnm] at HC ⊢
    go_enter Try.func63, Try.ntmps63
    go_wp2_with (go_at_call 20; refine HC.mono ?_; rintro e w' ⟨rfl, hp, ht⟩)
    go_ret
    exact ⟨rfl, hp, ((Tch.refl _ _).alloc _).trans ht, fun k hk => Or.inl hk⟩

set_option maxHeartbeats 400000 in
theorem pgive_any (h : PrOk N B w p) (n : Int) (hB : B ≤ 4398046511104) :
    Calls Try.prog 61 #[pv p, .int .i64 n] w fun e w' => e = .returned (.int .i64 (Tg.change p.g n 2 6).2) ∧ ∃ rs' ns', Left1 p.rd w p.gb p.tv p.rs p.ns w' (Tg.change p.g n 2 6).1 p.tv rs' ns' := by
  have HC := give_call (h.pg.alloc (.cells #[.pointer (px p), .pointer (phl p), .pointer (some ⟨p.b, 0, none⟩), .int .i64 (pnm p)] 100)) h.ok n (by have := h.len; omega)
  unfold pv
  obtain ⟨rd, gb, b, g, tv, rv, rs, ns⟩ := p
  cases rd with
  | none =>
    simp only [px, phl, pnm] at HC ⊢
    go_enter Try.func61, Try.ntmps61
    go_wp2_with (go_at_call 29; refine HC.mono ?_; rintro e w' ⟨rfl, rs', ns', L⟩)
    go_ret
    exact ⟨rfl, rs', ns', L.grow ((Tch.refl _ _).alloc _)⟩
  | some n =>
    simp only [px, phl, pnm] at HC ⊢
    go_enter Try.func61, Try.ntmps61
    go_wp2_with (go_at_call 29; refine HC.mono ?_; rintro e w' ⟨rfl, rs', ns', L⟩)
    go_ret
    exact ⟨rfl, rs', ns', L.grow ((Tch.refl _ _).alloc _)⟩

theorem change_quiet (g : Tg.Gt) (h : Tg.Quiet g.room g.pass g.all) (n s s' : Int) : Tg.Quiet (Tg.change g n s s').1.room (Tg.change g n s s').1.pass (Tg.change g n s s').1.all := by
  unfold Tg.change
  split
  · split
    · exact Tg.letIn_quiet _ _ _
    · exact h
  · exact h
theorem change_time (g : Tg.Gt) (n s s' : Int) : (Tg.change g n s s').1.time = g.time := by
  unfold Tg.change
  split
  · split <;> rfl
  · rfl
theorem ask_quiet (g : Tg.Gt) (h : Tg.Quiet g.room g.pass g.all) (a b c : Int) : Tg.Quiet (Tg.ask g a b c).1.room (Tg.ask g a b c).1.pass (Tg.ask g a b c).1.all := by
  unfold Tg.ask
  split
  · exact Tg.letIn_quiet _ _ _
  · exact h
theorem ask_time (g : Tg.Gt) (a b c : Int) : (Tg.ask g a b c).1.time = g.time := by
  unfold Tg.ask
  split <;> rfl

theorem Tch.cell {S : Nat → Prop} {w w' : World} (h : Tch S w w') {k o : Nat} (hk : k < w.heap.size) (hs : ¬ S k) : w'.cell? ⟨k, o, none⟩ = w.cell? ⟨k, o, none⟩ := World.cell?_of_block (h.block k hk hs)

attribute [local go_sem] alloc_drewN setCell_drewN

set_option maxRecDepth 20000 in
set_option maxHeartbeats 1000000 in
theorem asks_any (h : PrOk N B w p) (hN : N ≤ w.heap.size) (e0 a b c : Int) (hB : B + 1 ≤ 3518437208883) :
    Calls Try.prog 57 #[pv p, .agg #[.int .i64 2, .int .i64 e0, .int .i64 a, .int .i64 b, .int .i64 c]] w fun e w' => e = .returned (.bool true) ∧ ∃ p', Chg N (B + 1) w p w' p' := by
  have h1 := (h.alloc (.cells #[.pointer (px p), .pointer (phl p), .pointer (some ⟨p.b, 0, none⟩), .int .i64 (pnm p)] 100)).alloc (.cells #[.int .i64 2, .int .i64 e0, .int .i64 a, .int .i64 b, .int .i64 c] 79)
  have hl := h.len
  have htm := h.time
  have HC := ask_call h1.pg h.ok h.quiet a b c (by omega) (by omega)
  obtain ⟨R1, hR1⟩ : ∃ x, (Tg.ask p.g a b c).2.1 = x := ⟨_, rfl⟩
  obtain ⟨R2, hR2⟩ : ∃ x, (Tg.ask p.g a b c).2.2.1 = x := ⟨_, rfl⟩
  obtain ⟨R3, hR3⟩ : ∃ x, (Tg.ask p.g a b c).2.2.2 = x := ⟨_, rfl⟩
  rw [hR1, hR2, hR3] at HC
  unfold pv
  cases hrd : p.rd with
  | none =>
    rw [px_none hrd, phl_none hrd] at h1 HC ⊢
    clear hrd
    go_enter Try.func57, Try.ntmps57
    go_wp2_with fail
    refine HC.mono ?_
    rintro e w1 ⟨rfl, tv', rs', ns', L⟩
    have cb : w1.cell? ⟨w.heap.size, 2, none⟩ = some (.pointer (some ⟨p.b, 0, none⟩)) := by
      rw [L.tch.cell (by simp; omega) (fun x => by have := h.pg.ph.lt _ x; omega), World.cell?_alloc_past _ _ _ (by simp), World.cell?_alloc_at _ _ _ _ rfl]
      rfl
    have HR := rask_any p.b p.g p.rv a b c w1 (h1.rgKeep L.tch) h.ok (by omega) (by omega)
    rw [hR1, hR2, hR3] at HR
    have HR1 := hid hR1
    clear hR1 hR2 hR3 HC
    go_wp2_with (first | (go_at_call 86; refine HR.mono ?_; rintro e w2 ⟨rfl, rv', hr, ht, hm⟩) | (go_at_call 60; refine (num_any _ _).mono ?_; rintro e w3 ⟨rfl, rfl⟩))
    go_ret
    refine ⟨rfl, _, Chg.grow (((Tch.refl _ _).alloc _).alloc _) (h1.both (by simp; omega) L hr ht hm (Tg.ask_ok _ _ _ _ h.ok) (ask_quiet _ h.quiet _ _ _) ?_ ?_)⟩
    · have := Tg.ask_len p.g a b c; omega
    · rw [ask_time]; omega
  | some nn =>
    rw [px_some hrd, phl_some hrd] at h1 HC ⊢
    clear hrd
    go_enter Try.func57, Try.ntmps57
    go_wp2_with fail
    refine HC.mono ?_
    rintro e w1 ⟨rfl, tv', rs', ns', L⟩
    have cb : w1.cell? ⟨w.heap.size, 2, none⟩ = some (.pointer (some ⟨p.b, 0, none⟩)) := by
      rw [L.tch.cell (by simp; omega) (fun x => by have := h.pg.ph.lt _ x; omega), World.cell?_alloc_past _ _ _ (by simp), World.cell?_alloc_at _ _ _ _ rfl]
      rfl
    have HR := rask_any p.b p.g p.rv a b c w1 (h1.rgKeep L.tch) h.ok (by omega) (by omega)
    rw [hR1, hR2, hR3] at HR
    have HR1 := hid hR1
    clear hR1 hR2 hR3 HC
    go_wp2_with (first | (go_at_call 86; refine HR.mono ?_; rintro e w2 ⟨rfl, rv', hr, ht, hm⟩) | (go_at_call 60; refine (num_any _ _).mono ?_; rintro e w3 ⟨rfl, rfl⟩))
    go_ret
    refine ⟨rfl, _, Chg.grow (((Tch.refl _ _).alloc _).alloc _) (h1.both (by simp; omega) L hr ht hm (Tg.ask_ok _ _ _ _ h.ok) (ask_quiet _ h.quiet _ _ _) ?_ ?_)⟩
    · have := Tg.ask_len p.g a b c; omega
    · rw [ask_time]; omega
end

end Go.Proofs.Ytekjgjhhjlcoaaa
