import Derived.Test.YtekjgjhhjlcoaaaMod
namespace Tg

/-- Whose turn it is, told by what it is like: at the bound, and nobody ahead of it is. -/
theorem turn_due (pass : Int) (l : List Tk) (k : Nat) (hk : k < l.length) (hs : l[k].state = 1) (hc : pass ≤ l[k].count)
    (ha : ∀ i, i < k → ∀ hi : i < l.length, l[i].state = 1 → l[i].count < pass) : turn pass l = k + 1 := by
  have h : first (dueB pass []) 0 l = 0 + k + 1 := by
    refine first_some _ l 0 k hk ?_ fun j hj => ?_
    · simp [dueB, hs, hc]
    · have := ha j hj (by omega)
      simp only [Nat.zero_add]
      unfold dueB
      by_cases e : l[j].state = 1
      · have := this e
        simp [e]; omega
      · simp [e]
  unfold turn turnBut
  rw [if_pos (by omega), h]; omega

/-- .. nobody is at the bound, and it is the earliest of the lowest band. -/
theorem turn_band (pass : Int) (l : List Tk) (k : Nat) (hk : k < l.length) (hs : l[k].state = 1) (hb0 : 0 ≤ l[k].band) (hb2 : l[k].band ≤ 2)
    (hc : ∀ i (hi : i < l.length), l[i].state = 1 → l[i].count < pass)
    (ha : ∀ i (hi : i < l.length), l[i].state = 1 → l[k].band ≤ l[i].band)
    (hb : ∀ i, i < k → ∀ hi : i < l.length, l[i].state = 1 → l[k].band < l[i].band) : turn pass l = k + 1 := by
  have hd : first (dueB pass []) 0 l = 0 := by
    refine first_none _ l 0 fun j hj => ?_
    have := hc j hj
    unfold dueB
    by_cases e : l[j].state = 1
    · have := this e
      simp [e]; omega
    · simp [e]
  have hit : ∀ b : Int, l[k].band = b → first (bandB b []) 0 l = k + 1 := by
    intro b e
    have : first (bandB b []) 0 l = 0 + k + 1 := by
      refine first_some _ l 0 k hk ?_ fun j hj => ?_
      · simp [bandB, hs, e]
      · have := hb j hj (by omega)
        unfold bandB
        by_cases e2 : l[j].state = 1
        · have := this e2
          simp [e2]; omega
        · simp [e2]
    omega
  have miss : ∀ b : Int, b < l[k].band → first (bandB b []) 0 l = 0 := by
    intro b e
    refine first_none _ l 0 fun j hj => ?_
    have := ha j hj
    unfold bandB
    by_cases e2 : l[j].state = 1
    · have := this e2
      simp [e2]; omega
    · simp [e2]
  unfold turn turnBut
  rw [if_neg (by omega)]
  by_cases e0 : l[k].band = 0
  · have := hit 0 e0; rw [if_pos (by omega)]; exact this
  · rw [if_neg (by have := miss 0 (by omega); omega)]
    by_cases e1 : l[k].band = 1
    · have := hit 1 e1; rw [if_pos (by omega)]; exact this
    · rw [if_neg (by have := miss 1 (by omega); omega)]
      exact hit 2 (by omega)

theorem turn_none (pass : Int) (l : List Tk) (h : ∀ i (hi : i < l.length), l[i].state ≠ 1) : turn pass l = 0 := by
  rcases Nat.eq_zero_or_pos (turn pass l) with h0 | h0
  · exact h0
  · obtain ⟨k, hk, _, h2, _⟩ := turnBut_waits pass [] l (by unfold turn at h0; omega)
    exact absurd h2 (h k hk)

theorem held_modify (l : List Tk) (k : Nat) (hk : k < l.length) (s : Int) : held (l.modify k (setState s)) = held l - (if l[k].state = 2 then l[k].weight else 0) + (if s = 2 then l[k].weight else 0) := by
  induction l generalizing k with
  | nil => simp at hk
  | cons t r ih =>
    cases k with
    | zero => simp only [List.modify_zero_cons, held, setState, List.getElem_cons_zero]; omega
    | succ k =>
      simp only [List.modify_succ_cons, held, List.getElem_cons_succ]
      have := ih k (by simpa using hk)
      omega

theorem held_bump (l : List Tk) : held (l.map bumpT) = held l := by
  induction l with
  | nil => rfl
  | cons t r ih =>
    simp only [List.map_cons, held, ih]
    unfold bumpT
    split
    · rename_i h; simp [h]
    · rfl

theorem held_bumpTo (j : Nat) (l : List Tk) : held (bumpTo j l) = held l := by
  unfold bumpTo
  rw [held_append, held_bump, ← held_append, List.take_append_drop]

theorem held_enter (l : List Tk) (k : Nat) (hk : k < l.length) (hs : l[k].state = 1) : held (enter k l) = held l + l[k].weight := by
  unfold enter
  rw [held_bumpTo, held_modify l k hk 2]
  simp [hs]

theorem turn_pos (pass : Int) (l : List Tk) (i : Nat) (hi : i < l.length) (hs : l[i].state = 1) (hb0 : 0 ≤ l[i].band) (hb2 : l[i].band ≤ 2) : turn pass l ≠ 0 := by
  have key : ∀ b : Int, l[i].band = b → first (bandB b []) 0 l ≠ 0 := by
    intro b e h0
    rcases first_cases (bandB b []) l 0 with ⟨_, hn⟩ | ⟨k, hk, h1, _⟩
    · have := hn i hi
      simp [bandB, hs, e] at this
    · omega
  intro h
  unfold turn turnBut at h
  split at h
  · rename_i x; exact x h
  · split at h
    · rename_i x; exact x h
    · rename_i x0
      split at h
      · rename_i x; exact x h
      · rename_i x1
        by_cases e0 : l[i].band = 0
        · exact key 0 e0 (by omega)
        · by_cases e1 : l[i].band = 1
          · exact key 1 e1 (by omega)
          · exact key 2 (by omega) h

/-- Nobody is to be let in. -/
def Quiet (room pass : Int) (l : List Tk) : Prop := turn pass l = 0 ∨ ∃ k, ∃ hk : k < l.length, turn pass l = k + 1 ∧ room < held l + l[k].weight

theorem Quiet.stays {room pass : Int} {l : List Tk} (h : Quiet room pass l) : letIn room pass l = l := by
  rcases h with h | ⟨k, hk, h1, h2⟩
  · exact letIn_stop _ _ _ h
  · exact letIn_full _ _ _ k hk h1 h2

theorem lets_quiet (f : Nat) (room pass : Int) (l : List Tk) (hf : waitN l ≤ f) : Quiet room pass (lets f room pass l) := by
  induction f generalizing l with
  | zero => exact Or.inl (turn_zero pass l (by omega))
  | succ f ih =>
    unfold lets
    split
    · rename_i h; exact Or.inl h
    · rename_i k h
      obtain ⟨j, hj, h1, h2, _⟩ := turnBut_waits pass [] l (by unfold turn at h; omega)
      have e : j = k := by unfold turn at h; omega
      subst e
      have he : l.getD j ⟨0, 0, 0, 0, 0⟩ = l[j] := by simp [List.getD, hj]
      rw [he]
      split
      · exact ih _ (by have := waitN_enter l j hj h2; omega)
      · rename_i hn
        exact Or.inr ⟨j, hj, h, by omega⟩

theorem letIn_quiet (room pass : Int) (l : List Tk) : Quiet room pass (letIn room pass l) := lets_quiet _ _ _ _ (Nat.le_refl _)

theorem first_snoc (p : Nat → Tk → Bool) (l : List Tk) (t : Tk) (i : Nat) (hp : p (i + l.length) t = false) : first p i (l ++ [t]) = first p i l := by
  induction l generalizing i with
  | nil => simp at hp; simp [first, hp]
  | cons u r ih =>
    simp only [List.cons_append, first]
    rw [ih (i + 1) (by simpa [Nat.add_assoc, Nat.add_comm 1 r.length] using hp)]

theorem turn_snoc (pass : Int) (l : List Tk) (t : Tk) (hs : t.state ≠ 1) : turn pass (l ++ [t]) = turn pass l := by
  unfold turn turnBut
  have h1 : ∀ i, dueB pass [] i t = false := fun i => by simp [dueB, hs]
  have h2 : ∀ b i, bandB b [] i t = false := fun b i => by simp [bandB, hs]
  rw [first_snoc _ _ _ _ (h1 _), first_snoc _ _ _ _ (h2 0 _), first_snoc _ _ _ _ (h2 1 _), first_snoc _ _ _ _ (h2 2 _)]

/-- One that does not wait, and holds nothing, changes nothing. -/
theorem Quiet.snoc {room pass : Int} {l : List Tk} {t : Tk} (h : Quiet room pass l) (h1 : t.state ≠ 1) (h2 : t.state ≠ 2) : Quiet room pass (l ++ [t]) := by
  unfold Quiet
  rw [turn_snoc pass l t h1, held_append]
  simp only [held, h2, if_false]
  rcases h with h | ⟨k, hk, h3, h4⟩
  · exact Or.inl h
  · refine Or.inr ⟨k, by simp; omega, h3, ?_⟩
    rw [List.getElem_append_left hk]; omega

theorem Quiet.hold {room pass : Int} {l : List Tk} {t : Tk} (h : turn pass l = 0) (h1 : t.state ≠ 1) : Quiet room pass (l ++ [t]) := by
  left; rw [turn_snoc pass l t h1]; exact h

end Tg
