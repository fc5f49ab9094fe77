import Derived.Test.YtekjgjhhjlcoaaaKeepL
namespace Go.Proofs.Ytekjgjhhjlcoaaa
open Go.RowKit Go.Conc

/-- What the clock's law holds: a log, and a list of its own. -/
structure CL (N : Nat) (w0 w : World) (tb gb : Nat) (g : Tg.Gt) (S : Nat → Prop) (uv : Value) (us : List Int) : Prop where
  kl : KL N w0 w tb gb g S 0 (.slice none 0 0) []
  row : w.ownsRow 0 3 1 uv us.length (ivs us)
  uS : ∀ k, uv.ownBlock = some k → ¬ S k
  ulow : ∀ k, uv.ownBlock = some k → N ≤ k
  size : N ≤ w.heap.size

section
variable {N : Nat} {w0 w w' : World} {tb gb : Nat} {g g' : Tg.Gt} {S : Nat → Prop} {uv uv' : Value} {us : List Int}

theorem CL.gate {S' : Nat → Prop} (h : CL N w0 w tb gb g S uv us) (hg : GA w' gb g' S') (ht : Tch S w w') (hs : ∀ k, S' k → S k ∨ w.heap.size ≤ k) : CL N w0 w' tb gb g' S' uv us :=
  ⟨h.kl.gate h.size hg ht hs, ownsRow_keep h.row fun k hk => ht.block k (h.row.lt k hk).2 (h.uS k hk), fun k hk x => by
    rcases hs k x with y | y
    · exact h.uS k hk y
    · have := (h.row.lt k hk).2; omega, h.ulow, by have := h.size; have := ht.size; omega⟩
theorem CL.gs (h : CL N w0 w tb gb g S uv us) (hg : GS w S gb g' w') : ∃ S', CL N w0 w' tb gb g' S' uv us := by
  obtain ⟨S', h1, h2, h3⟩ := hg
  exact ⟨S', h.gate h1 h2 h3⟩
theorem CL.same (h : CL N w0 w tb gb g S uv us) (hg : GA w' gb g S) (ht : Tch S w w') : CL N w0 w' tb gb g S uv us := h.gate hg ht fun _ x => Or.inl x

theorem CL.ne (h : CL N w0 w tb gb g S uv us) : uv.ownBlock ≠ some tb := by
  intro e
  rcases h.row.2 with ⟨e1, _⟩ | ⟨ab, cap, cur, e1, _, hh, _⟩
  · rw [e1] at e; simp [Value.ownBlock] at e
  · rw [e1] at e; simp [Value.ownBlock] at e; subst e
    have := h.kl.blk
    rw [hh] at this; simp at this

/-- The list has grown. -/
theorem CL.app (h : CL N w0 w tb gb g S uv us) (x : Int) (ho : w'.ownsRow 0 3 1 uv' (us.length + 1) (ivs us ++ [.int .i64 x])) (hg : w.grownBy w' uv.ownBlock) (hm : Moved w uv uv') : CL N w0 w' tb gb g S uv' (us ++ [x]) := by
  have keep : ∀ k, k < w.heap.size → uv.ownBlock ≠ some k → w'.heap[k]? = w.heap[k]? := fun k hk hn => hg.block k hk fun e => hn e.symm
  have old : ∀ k, uv'.ownBlock = some k → uv.ownBlock = some k ∨ w.heap.size ≤ k := fun k hk => by
    rcases hm with y | ⟨j, y, z⟩
    · exact Or.inl (by rw [← y]; exact hk)
    · rw [y] at hk; simp at hk; exact Or.inr (by omega)
  have hz := h.size
  refine ⟨⟨(keep tb h.kl.tlt h.ne).trans h.kl.blk, World.ownsRow_nil _ _ _ _, h.kl.ga.keep fun k hk => keep k (h.kl.ga.lt k hk) fun e => h.uS k e hk, h.kl.tS, h.kl.rS, h.kl.low, h.kl.rlow, h.kl.slow, h.kl.bel.grown hg hz h.ulow⟩, ?_, fun k hk x => ?_, fun k hk => ?_, by have := hg.size; omega⟩
  · simpa [ivs_append, ivs] using ho
  · rcases old k hk with y | y
    · exact h.uS k y x
    · have := h.kl.ga.lt k x; omega
  · rcases old k hk with y | y
    · exact h.ulow k y
    · omega
theorem CL.grow (h : CL N w0 w tb gb g S uv us) (ht : Tch (fun _ => False) w w') : CL N w0 w' tb gb g S uv us :=
  ⟨h.kl.grow h.size ht, ownsRow_keep h.row fun k hk => ht.block k (h.row.lt k hk).2 (fun x => x), h.uS, h.ulow, by have := h.size; have := ht.size; omega⟩

theorem CL.form (h : CL N w0 w tb gb g S uv us) : ∃ ao cap, uv = .slice ao us.length cap := row_form h.row
theorem CL.at (h : CL N w0 w tb gb g S uv us) {ao : Option Addr} {n cap : Nat} (hv : uv = .slice ao n cap) (k : Nat) (hk : k < us.length) : ∃ ab, ao = some ⟨ab, 0, none⟩ ∧ w.cell? ⟨ab, k, none⟩ = some (.int .i64 us[k]) := by
  obtain ⟨ao', cap', e, _, hc⟩ := (Ints.of_row h.row).form
  rw [hv] at e
  simp only [Value.slice.injEq] at e
  obtain ⟨rfl, _, _⟩ := e
  exact hc k hk

theorem stateOf_ck (h : Tg.Ck us g) (k : Nat) (hk : k < us.length) : Tg.stateOf g.all ((k : Int) + 1) = (Tg.stc us[k] g.time, 0) := by
  have hkg : k < g.all.length := by rw [← h.len]; exact hk
  unfold Tg.stateOf
  rw [if_pos (by omega)]
  simp [hkg, h.st k hkg hk]

set_option maxRecDepth 20000 in
set_option maxHeartbeats 2000000 in
theorem clocked_any (h : CL N w0 w tb gb g S uv us) (c : Tg.Ck us g) (hl : us.length ≤ 1000) :
    Calls Try.prog 23 #[.pointer (some ⟨tb, 0, none⟩), uv, .int .i64 g.time] w fun e w' => e = .returned (.bool true) ∧ CL N w0 w' tb gb g S uv us := by
  obtain ⟨ao, cap, rfl⟩ := h.form
  go_enter Try.func23, Try.ntmps23
  go_wp2
  go_loopg [7] us.length (fun r iv wr => ∃ i, i + r = us.length ∧ iv = .int .i64 (i : Int) ∧ CL N w0 wr tb gb g S (.slice ao us.length cap) us)
  case atStart => exact ⟨0, by omega, rfl, h⟩
  case round =>
    obtain ⟨i, hi, rfl, X⟩ := hrel
    by_cases hlt : i < us.length
    · have t0 := X.kl.c0
      have e1 := wrapId ((i : Int) + 1) (by omega) (by omega)
      have SA := ga_state X.kl.ga ((i : Int) + 1)
      rw [stateOf_ck c i hlt] at SA
      have AT := fun w1 (X1 : CL N w0 w1 tb gb g S (.slice ao us.length cap) us) => X1.at rfl i hlt
      have hlow := c.low i hlt
      obtain ⟨u, eu⟩ : ∃ u, us[i] = u := ⟨_, rfl⟩
      rw [eu] at SA hlow
      simp only [eu] at AT
      clear eu
      unfold Tg.stc at SA
      go_wp2_with fail
      refine SA.mono ?_
      rintro e w1 ⟨rfl, G1, T1⟩
      have X1 := X.same G1 T1
      obtain ⟨ab, rfl, ca⟩ := AT w1 X1
      clear SA AT X G1 T1
      by_cases h2 : u = -2
      · subst h2
        simp only [if_true]
        go_wp2
        go_roundg (gk - 1)
        case rel => exact ⟨i + 1, by omega, by simp, X1⟩
        case measure => omega
      · have h2' : (u == -2) = false := by simpa using h2
        rw [if_neg h2]
        by_cases h0 : 0 ≤ u
        · have h0' : decide (0 ≤ u) = true := by simpa using h0
          by_cases h1 : u ≤ g.time
          · have h1' : decide (u ≤ g.time) = true := by simpa using h1
            rw [if_pos ⟨h0, h1⟩]
            clear h0 h1 h2
            go_wp2
            go_roundg (gk - 1)
            case rel => exact ⟨i + 1, by omega, by simp, X1⟩
            case measure => omega
          · have h1' : decide (u ≤ g.time) = false := by simpa using h1
            rw [if_neg (fun x => h1 x.2)]
            clear h0 h1 h2
            go_wp2
            go_roundg (gk - 1)
            case rel => exact ⟨i + 1, by omega, by simp, X1⟩
            case measure => omega
        · have h0' : decide (0 ≤ u) = false := by simpa using h0
          rw [if_neg (fun x => h0 x.1)]
          clear h0 h2
          go_wp2
          go_roundg (gk - 1)
          case rel => exact ⟨i + 1, by omega, by simp, X1⟩
          case measure => omega
    · go_wp2
      go_ret
      exact ⟨rfl, X⟩
end

end Go.Proofs.Ytekjgjhhjlcoaaa
