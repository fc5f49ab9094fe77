import Derived.Test.YtekjgjhhjlcoaaaModQ
import Derived.Test.YtekjgjhhjlcoaaaModF
namespace Tg

/-! ### The queue, as one who looks on reads it -/

theorem queueL_mem (pass : Int) (l : List Tk) (x : Int) (h : x ∈ queueL pass l) : ∃ k, ∃ hk : k < l.length, x = (k : Int) + 1 ∧ l[k].state = 1 := by
  unfold queueL at h
  simp only [List.mem_append] at h
  rcases h with h | h | h | h
  all_goals
    obtain ⟨k, hk, e, hp⟩ := (mem_idx _ 0 l x).1 h
    refine ⟨k, hk, by simpa using e, ?_⟩
    simp only [dueT, bandT, Bool.and_eq_true, beq_iff_eq] at hp
    first | exact hp.1.1 | exact hp.1

theorem queueL_nodup (pass : Int) (l : List Tk) : (queueL pass l).Nodup := by
  have nd : ∀ p : Tk → Bool, (idx p 0 l).Nodup := fun p => (idx_sorted p 0 l).imp fun h e => by omega
  unfold queueL
  rw [List.nodup_append, List.nodup_append, List.nodup_append]
  have d : ∀ band, ∀ y ∈ idx (bandT pass band) 0 l, ¬ y ∈ idx (dueT pass) 0 l := fun band => idx_disjoint (due_band pass band) l
  have e : ∀ a b : Int, a ≠ b → ∀ y ∈ idx (bandT pass b) 0 l, ¬ y ∈ idx (bandT pass a) 0 l := fun a b h => idx_disjoint (band_band pass a b h) l
  refine ⟨nd _, ⟨nd _, ⟨nd _, nd _, ?_⟩, ?_⟩, ?_⟩
  · intro a ha b hb e1; subst e1; exact e 1 2 (by omega) a hb ha
  · intro a ha b hb e1; subst e1
    rcases List.mem_append.1 hb with x | x
    · exact e 0 1 (by omega) a x ha
    · exact e 0 2 (by omega) a x ha
  · intro a ha b hb e1; subst e1
    simp only [List.mem_append] at hb
    rcases hb with x | x | x
    · exact d 0 a x ha
    · exact d 1 a x ha
    · exact d 2 a x ha

theorem idx_length (p : Tk → Bool) (i : Nat) (l : List Tk) : (idx p i l).length = l.countP p := by
  induction l generalizing i with
  | nil => rfl
  | cons t r ih =>
    rw [idx_cons, List.countP_cons]
    split
    · rename_i h; simp [ih]
    · rename_i h; simp [ih]

theorem waitN_split (pass : Int) (l : List Tk) (h : TksOk pass l) : l.countP (dueT pass) + (l.countP (bandT pass 0) + (l.countP (bandT pass 1) + l.countP (bandT pass 2))) = waitN l := by
  induction l with
  | nil => rfl
  | cons t r ih =>
    have h0 := h t (by simp)
    have ih' := ih fun u hu => h u (by simp [hu])
    simp only [List.countP_cons, waitN]
    have hb1 := h0.b1
    have hb2 := h0.b2
    have : (if dueT pass t = true then 1 else 0) + ((if bandT pass 0 t = true then 1 else 0) + ((if bandT pass 1 t = true then 1 else 0) + (if bandT pass 2 t = true then 1 else 0))) = (if t.state = 1 then 1 else 0) := by
      unfold dueT bandT
      by_cases hs : t.state = 1
      · by_cases hd : pass ≤ t.count
        · simp [hs, hd]
        · have hband : t.band = 0 ∨ t.band = 1 ∨ t.band = 2 := by omega
          rcases hband with e | e | e <;> simp [hs, hd, e]
      · simp [hs]
    omega

theorem queueL_length (pass : Int) (l : List Tk) (h : TksOk pass l) : (queueL pass l).length = waitN l := by
  unfold queueL
  simp only [List.length_append, idx_length]
  exact waitN_split pass l h

theorem queueL_head (pass : Int) (l : List Tk) (x : Int) (r : List Int) (h : queueL pass l = x :: r) : (turn pass l : Int) = x := turn_next pass l [] x r (by simpa using h)
theorem queueL_nil (pass : Int) (l : List Tk) (h : queueL pass l = []) : turn pass l = 0 := by
  have := turn_done pass l
  rw [h] at this
  exact this

/-- The first of the queue does not fit. -/
theorem Quiet.first {room pass : Int} {l : List Tk} (h : Quiet room pass l) (x : Int) (r : List Int) (hq : queueL pass l = x :: r) : ∃ k, ∃ hk : k < l.length, x = (k : Int) + 1 ∧ room < held l + l[k].weight := by
  have ht := queueL_head pass l x r hq
  rcases h with h0 | ⟨k, hk, h1, h2⟩
  · obtain ⟨k, hk, e, _⟩ := queueL_mem pass l x (by rw [hq]; simp)
    omega
  · exact ⟨k, hk, by omega, h2⟩

/-- Nobody waits, or the queue is not empty. -/
theorem queueL_pos (pass : Int) (l : List Tk) : turn pass l = 0 ↔ (queueL pass l).length = 0 := by
  constructor
  · intro h
    cases hq : queueL pass l with
    | nil => rfl
    | cons x r =>
      have := queueL_head pass l x r hq
      obtain ⟨k, hk, e, _⟩ := queueL_mem pass l x (by rw [hq]; simp)
      omega
  · intro h
    exact queueL_nil pass l (List.eq_nil_of_length_eq_zero h)

/-! ### One band -/

/-- All are of one band, and nobody that waits was passed by. -/
structure OneRow (l : List Tk) : Prop where
  band : ∀ t ∈ l, t.band = 1
  count : ∀ t ∈ l, t.state = 1 → t.count = 0

theorem OneRow.first {l : List Tk} (h : OneRow l) (pass : Int) (k : Nat) (ht : turn pass l = k + 1) : ∀ j, j < k → ∀ hj : j < l.length, l[j].state ≠ 1 := by
  intro j hjk hj hs
  have hc := h.count _ (List.getElem_mem hj) hs
  have hb := h.band _ (List.getElem_mem hj)
  have hd := turn_below pass l k ht j hjk hj hs
  -- nobody is at the bound ahead of it, and it is of the same band: its turn is ahead
  unfold turn turnBut at ht
  rcases first_cases (dueB pass []) l 0 with ⟨h0, hn⟩ | ⟨m, hm, h1, h2, h3⟩
  · rw [if_neg (by omega)] at ht
    rcases first_cases (bandB 0 []) l 0 with ⟨b0, _⟩ | ⟨m, hm, _, h2, _⟩
    · rw [if_neg (by omega)] at ht
      rcases first_cases (bandB 1 []) l 0 with ⟨b1, hn1⟩ | ⟨m, hm, h1, h2, h3⟩
      · have := hn1 j hj
        simp [bandB, hs, hb] at this
      · rw [if_pos (by omega), h1] at ht
        have := h3 j (by omega)
        simp [bandB, hs, hb] at this
    · have := h.band _ (List.getElem_mem hm)
      simp [bandB, this] at h2
  · simp only [Nat.zero_add, dueB, Bool.and_eq_true, decide_eq_true_eq, beq_iff_eq] at h2
    have := h.count _ (List.getElem_mem hm) h2.1.1
    omega

theorem OneRow.enter {l : List Tk} (h : OneRow l) (pass : Int) (k : Nat) (ht : turn pass l = k + 1) : OneRow (enter k l) := by
  have get : ∀ i (hi : i < l.length), (Tg.enter k l)[i]'(by rw [enter_length]; exact hi) = if i = k then setState 2 l[i] else l[i] := by
    intro i hi
    rw [enter_getElem k l i hi]
    by_cases h1 : i < k
    · rw [if_pos h1, if_neg (by omega)]
      unfold bumpT
      rw [if_neg (h.first pass k ht i h1 hi)]
    · rw [if_neg h1]
  refine ⟨fun t hm => ?_, fun t hm hs => ?_⟩
  · obtain ⟨i, hi, rfl⟩ := List.getElem_of_mem hm
    have hil : i < l.length := by rw [enter_length] at hi; exact hi
    rw [get i hil]
    split
    · show l[i].band = 1; exact h.band _ (List.getElem_mem hil)
    · exact h.band _ (List.getElem_mem hil)
  · obtain ⟨i, hi, rfl⟩ := List.getElem_of_mem hm
    have hil : i < l.length := by rw [enter_length] at hi; exact hi
    rw [get i hil] at hs ⊢
    by_cases e : i = k
    · rw [if_pos e] at hs; simp [setState] at hs
    · rw [if_neg e] at hs ⊢
      exact h.count _ (List.getElem_mem hil) hs

theorem OneRow.lets (f : Nat) (room pass : Int) {l : List Tk} (h : OneRow l) : OneRow (lets f room pass l) := by
  induction f generalizing l with
  | zero => exact h
  | succ f ih =>
    unfold Tg.lets
    split
    · exact h
    · rename_i k hk
      split
      · exact ih (h.enter pass k hk)
      · exact h

theorem OneRow.letIn {l : List Tk} (h : OneRow l) (room pass : Int) : OneRow (letIn room pass l) := OneRow.lets _ _ _ h

theorem OneRow.modify {l : List Tk} (h : OneRow l) (k : Nat) (s : Int) (hs : s ≠ 1) : OneRow (l.modify k (setState s)) := by
  refine ⟨fun t hm => ?_, fun t hm h1 => ?_⟩
  · obtain ⟨i, hi, rfl⟩ := List.getElem_of_mem hm
    have hil : i < l.length := by simpa using hi
    rw [List.getElem_modify]
    split
    · show l[i].band = 1; exact h.band _ (List.getElem_mem hil)
    · exact h.band _ (List.getElem_mem hil)
  · obtain ⟨i, hi, rfl⟩ := List.getElem_of_mem hm
    rw [List.getElem_modify] at h1 ⊢
    split at h1
    · simp [setState] at h1; exact absurd h1 hs
    · rename_i e; rw [if_neg e]; exact h.count _ (List.getElem_mem _) h1

theorem OneRow.late {l : List Tk} (h : OneRow l) (now : Int) : OneRow (l.map (lateT now)) := by
  refine ⟨fun t hm => ?_, fun t hm h1 => ?_⟩
  · obtain ⟨u, hu, rfl⟩ := List.mem_map.1 hm
    have : (lateT now u).band = u.band := by unfold lateT; split <;> rfl
    rw [this]; exact h.band u hu
  · obtain ⟨u, hu, rfl⟩ := List.mem_map.1 hm
    rw [lateT_count]
    rcases lateT_state now u with e | ⟨_, e⟩
    · rw [e] at h1; exact h.count u hu h1
    · omega

theorem OneRow.snoc {l : List Tk} (h : OneRow l) (t : Tk) (hb : t.band = 1) (hc : t.count = 0) : OneRow (l ++ [t]) := by
  refine ⟨fun u hu => ?_, fun u hu h1 => ?_⟩
  · rcases List.mem_append.1 hu with x | x
    · exact h.band u x
    · simp at x; subst x; exact hb
  · rcases List.mem_append.1 hu with x | x
    · exact h.count u x h1
    · simp at x; subst x; exact hc

/-- The queue of one band is in the order of numbers. -/
theorem OneRow.sorted {l : List Tk} (h : OneRow l) (pass : Int) (hp : 0 ≤ pass) : (queueL pass l).Pairwise (· < ·) := by
  have none : ∀ p : Tk → Bool, (∀ t ∈ l, p t = false) → idx p 0 l = [] := by
    intro p hpn
    apply List.eq_nil_iff_forall_not_mem.2
    intro x hx
    obtain ⟨k, hk, _, hp⟩ := (mem_idx p 0 l x).1 hx
    rw [hpn _ (List.getElem_mem hk)] at hp
    exact Bool.noConfusion hp
  have b0 : idx (bandT pass 0) 0 l = [] := none _ fun t ht => by simp [bandT, h.band t ht]
  have b2 : idx (bandT pass 2) 0 l = [] := none _ fun t ht => by simp [bandT, h.band t ht]
  unfold queueL
  rw [b0, b2]
  by_cases e : pass = 0
  · have b1 : idx (bandT pass 1) 0 l = [] := none _ fun t ht => by
      by_cases hs : t.state = 1
      · have := h.count t ht hs
        simp [bandT, this, e]
      · simp [bandT, hs]
    rw [b1]
    simpa using idx_sorted (dueT pass) 0 l
  · have d : idx (dueT pass) 0 l = [] := none _ fun t ht => by
      by_cases hs : t.state = 1
      · have := h.count t ht hs
        simp [dueT, this]; intro; omega
      · simp [dueT, hs]
    rw [d]
    simpa using idx_sorted (bandT pass 1) 0 l

end Tg
