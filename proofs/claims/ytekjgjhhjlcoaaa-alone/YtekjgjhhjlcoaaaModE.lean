import Derived.Test.YtekjgjhhjlcoaaaRel
namespace Tg

def zeroT : Tk := ⟨0, 0, 0, 0, 0⟩
/-- The ticket at a place (a zero one behind the end). -/
def tkAt (l : List Tk) (i : Nat) : Tk := l.getD i zeroT

theorem tkAt_lt {l : List Tk} {i : Nat} (h : i < l.length) : tkAt l i = l[i] := by simp [tkAt, List.getD, h]
theorem tkAt_ge {l : List Tk} {i : Nat} (h : l.length ≤ i) : tkAt l i = zeroT := by simp [tkAt, List.getD, h]

/-- How many places behind a, ahead of b, at which a test says yes. -/
def cnt (f : Nat → Bool) (a : Nat) : Nat → Nat
  | 0 => 0
  | b + 1 => cnt f a b + (if a < b ∧ f b = true then 1 else 0)

theorem cnt_none (f : Nat → Bool) (a b : Nat) (h : ∀ j, a < j → j < b → f j = false) : cnt f a b = 0 := by
  induction b with
  | zero => rfl
  | succ b ih =>
    have := ih fun j h1 h2 => h j h1 (by omega)
    simp only [cnt, this, Nat.zero_add]
    split
    · rename_i e; have := h b e.1 (by omega); rw [this] at e; exact absurd e.2 (by simp)
    · rfl

theorem cnt_congr (f g : Nat → Bool) (a b : Nat) (h : ∀ j, a < j → j < b → f j = g j) : cnt f a b = cnt g a b := by
  induction b with
  | zero => rfl
  | succ b ih =>
    simp only [cnt, ih fun j h1 h2 => h j h1 (by omega)]
    by_cases e : a < b
    · rw [h b e (by omega)]
    · simp [e]

theorem cnt_add (f g h : Nat → Bool) (a b : Nat) (hh : ∀ j, a < j → j < b → h j = (f j || g j)) (hd : ∀ j, f j = true → g j = false) : cnt h a b = cnt f a b + cnt g a b := by
  induction b with
  | zero => rfl
  | succ b ih =>
    simp only [cnt, ih fun j h1 h2 => hh j h1 (by omega)]
    by_cases e : a < b
    · rw [hh b e (by omega)]
      have := hd b
      cases hf : f b <;> cases hg : g b <;> simp_all <;> omega
    · simp [e]

theorem cnt_one (f : Nat → Bool) (a b k : Nat) (h : ∀ j, f j = true ↔ j = k) : cnt f a b = if a < k ∧ k < b then 1 else 0 := by
  induction b with
  | zero => simp [cnt]
  | succ b ih =>
    simp only [cnt, ih, h b]
    by_cases e : b = k
    · subst e
      by_cases h1 : a < b
      · simp [h1]
      · simp [h1]
    · by_cases h1 : a < k ∧ k < b
      · rw [if_pos h1, if_neg (by omega), if_pos (by omega)]
      · rw [if_neg h1, if_neg (by omega), if_neg (by omega)]

/-- Came in between: it did not hold, and holds. -/
def newly (l l' : List Tk) (j : Nat) : Bool := decide ((tkAt l j).state ≠ 2 ∧ (tkAt l' j).state = 2)

/-- What letting in does to a list of tickets. -/
structure Lets (l l' : List Tk) : Prop where
  len : l'.length = l.length
  wt : ∀ i, (tkAt l' i).weight = (tkAt l i).weight
  bd : ∀ i, (tkAt l' i).band = (tkAt l i).band
  tl : ∀ i, (tkAt l' i).till = (tkAt l i).till
  st : ∀ i, (tkAt l' i).state = (tkAt l i).state ∨ ((tkAt l i).state = 1 ∧ (tkAt l' i).state = 2)
  ct : ∀ k, (tkAt l' k).state = 1 → (tkAt l' k).count = (tkAt l k).count + cnt (newly l l') k l.length

theorem Lets.refl (l : List Tk) : Lets l l :=
  ⟨rfl, fun _ => rfl, fun _ => rfl, fun _ => rfl, fun _ => Or.inl rfl, fun k _ => by
    rw [cnt_none _ _ _ fun j _ _ => by simp [newly]]; simp⟩

theorem Lets.back {l l' : List Tk} (h : Lets l l') {k : Nat} (hk : (tkAt l' k).state = 1) : (tkAt l k).state = 1 := by
  rcases h.st k with e | ⟨e, _⟩
  · rw [← e]; exact hk
  · exact e

theorem Lets.trans {l l1 l2 : List Tk} (h : Lets l l1) (h' : Lets l1 l2) : Lets l l2 := by
  refine ⟨h'.len.trans h.len, fun i => (h'.wt i).trans (h.wt i), fun i => (h'.bd i).trans (h.bd i), fun i => (h'.tl i).trans (h.tl i), fun i => ?_, fun k hk => ?_⟩
  · rcases h.st i with e | ⟨e1, e2⟩
    · rcases h'.st i with f | ⟨f1, f2⟩
      · exact Or.inl (f.trans e)
      · exact Or.inr ⟨by rw [← e]; exact f1, f2⟩
    · rcases h'.st i with f | ⟨f1, f2⟩
      · exact Or.inr ⟨e1, f.trans e2⟩
      · rw [e2] at f1; exact absurd f1 (by omega)
  · have h1 := h.ct k (h'.back hk)
    have h2 := h'.ct k hk
    rw [h.len] at h2
    rw [cnt_add (newly l l1) (newly l1 l2) (newly l l2) k l.length ?_ ?_]
    · omega
    · intro j _ _
      unfold newly
      rw [← Bool.decide_or]
      apply decide_eq_decide.2
      rcases h.st j with e | ⟨e1, e2⟩
      · rw [e]
        constructor
        · intro x; exact Or.inr x
        · rintro (⟨x, y⟩ | x)
          · exact absurd y x
          · exact x
      · rcases h'.st j with f | ⟨f1, f2⟩
        · rw [f, e2, e1]; simp
        · rw [e2] at f1; exact absurd f1 (by omega)
    · intro j hj
      simp only [newly, decide_eq_true_eq] at hj
      simp only [newly, decide_eq_false_iff_not]
      intro x
      exact x.1 hj.2

theorem tkAt_enter (l : List Tk) (k : Nat) (hk : k < l.length) (i : Nat) : tkAt (enter k l) i = if i < k then bumpT (tkAt l i) else if i = k then setState 2 (tkAt l i) else tkAt l i := by
  by_cases hi : i < l.length
  · rw [tkAt_lt (by rw [enter_length]; exact hi), tkAt_lt hi, enter_getElem k l i hi]
  · rw [tkAt_ge (by rw [enter_length]; omega), tkAt_ge (by omega), if_neg (by omega), if_neg (by omega)]

theorem bumpT_state (t : Tk) : (bumpT t).state = t.state := by unfold bumpT; split <;> rfl
theorem bumpT_weight (t : Tk) : (bumpT t).weight = t.weight := by unfold bumpT; split <;> rfl
theorem bumpT_band (t : Tk) : (bumpT t).band = t.band := by unfold bumpT; split <;> rfl
theorem bumpT_till (t : Tk) : (bumpT t).till = t.till := by unfold bumpT; split <;> rfl

theorem Lets.enter (l : List Tk) (k : Nat) (hk : k < l.length) (hs : l[k].state = 1) : Lets l (enter k l) := by
  have hsk : (tkAt l k).state = 1 := by rw [tkAt_lt hk]; exact hs
  have hst : ∀ j, (tkAt (Tg.enter k l) j).state = if j = k then 2 else (tkAt l j).state := by
    intro j
    rw [tkAt_enter l k hk j]
    split
    · rw [bumpT_state, if_neg (by omega)]
    · split <;> rfl
  refine ⟨enter_length k l, fun i => ?_, fun i => ?_, fun i => ?_, fun i => ?_, fun i hi => ?_⟩
  · rw [tkAt_enter l k hk i]; split
    · exact bumpT_weight _
    · split <;> rfl
  · rw [tkAt_enter l k hk i]; split
    · exact bumpT_band _
    · split <;> rfl
  · rw [tkAt_enter l k hk i]; split
    · exact bumpT_till _
    · split <;> rfl
  · rw [hst i]; split
    · rename_i e; subst e; exact Or.inr ⟨hsk, rfl⟩
    · exact Or.inl rfl
  · rw [hst i] at hi
    have hne : i ≠ k := by intro e; rw [if_pos e] at hi; omega
    rw [if_neg hne] at hi
    rw [cnt_one _ i l.length k (fun j => by
      simp only [newly, decide_eq_true_eq, hst j]
      constructor
      · rintro ⟨x, y⟩
        by_cases e : j = k
        · exact e
        · rw [if_neg e] at y; exact absurd y x
      · rintro rfl
        rw [hsk]; simp)]
    rw [tkAt_enter l k hk i]
    by_cases h1 : i < k
    · rw [if_pos h1, if_pos ⟨h1, hk⟩]
      unfold bumpT
      rw [if_pos hi]
      simp
    · rw [if_neg h1, if_neg hne, if_neg (by omega)]; simp

theorem lets_lets (f : Nat) (room pass : Int) (l : List Tk) : Lets l (lets f room pass l) ∧ (lets f room pass l = l ∨ held (lets f room pass l) ≤ room) := by
  induction f generalizing l with
  | zero => exact ⟨Lets.refl l, Or.inl rfl⟩
  | succ f ih =>
    unfold Tg.lets
    split
    · exact ⟨Lets.refl l, Or.inl rfl⟩
    · rename_i k hk
      split
      · rename_i hf
        obtain ⟨j, hj, h1, h2, _⟩ := turnBut_waits pass [] l (by unfold turn at hk; omega)
        obtain rfl : j = k := by unfold turn at hk; omega
        have hl := Lets.enter l j hj h2
        obtain ⟨i1, i2⟩ := ih (Tg.enter j l)
        refine ⟨hl.trans i1, Or.inr ?_⟩
        rcases i2 with e | e
        · rw [e, held_enter l j hj h2]
          simpa [List.getD, hj] using hf
        · exact e
      · exact ⟨Lets.refl l, Or.inl rfl⟩

theorem letIn_lets (room pass : Int) (l : List Tk) : Lets l (letIn room pass l) := (lets_lets _ _ _ _).1
theorem letIn_room (room pass : Int) (l : List Tk) : letIn room pass l = l ∨ held (letIn room pass l) ≤ room := (lets_lets _ _ _ _).2

/-! ### What one who looks on knows -/

/-- Of a ticket: its weight, how it stood, how often it was passed by. -/
structure Sn where
  weight : Int
  state : Int
  passed : Int

def snAt (s : List Sn) (i : Nat) : Sn := s.getD i ⟨0, 0, 0⟩

theorem snAt_lt {s : List Sn} {i : Nat} (h : i < s.length) : snAt s i = s[i] := by simp [snAt, List.getD, h]
theorem snAt_ge {s : List Sn} {i : Nat} (h : s.length ≤ i) : snAt s i = ⟨0, 0, 0⟩ := by simp [snAt, List.getD, h]

/-- What is known is so. -/
structure Knows (s : List Sn) (l : List Tk) : Prop where
  len : s.length = l.length
  wt : ∀ i, (snAt s i).weight = (tkAt l i).weight
  st : ∀ i, (snAt s i).state = (tkAt l i).state
  ps : ∀ k, (tkAt l k).state = 1 → (snAt s k).passed = (tkAt l k).count

def came (s : List Sn) (l : List Tk) (j : Nat) : Bool := decide ((snAt s j).state ≠ 2 ∧ (tkAt l j).state = 2)

/-- What was known, and what may have become of it by one act. -/
structure Turned (s : List Sn) (l : List Tk) (room : Int) : Prop where
  len : s.length = l.length
  wt : ∀ i, (snAt s i).weight = (tkAt l i).weight
  st : ∀ i, (tkAt l i).state = (snAt s i).state ∨ ((snAt s i).state = 1 ∧ 2 ≤ (tkAt l i).state ∧ (tkAt l i).state ≤ 5)
  ps : ∀ k, (tkAt l k).state = 1 → (tkAt l k).count = (snAt s k).passed + cnt (came s l) k l.length
  rm : (∀ j, came s l j = false) ∨ held l ≤ room

/-- The act, ahead of the letting in. -/
structure Acted (s : List Sn) (l : List Tk) (room : Int) : Prop where
  len : s.length = l.length
  wt : ∀ i, (snAt s i).weight = (tkAt l i).weight
  st : ∀ i, (tkAt l i).state = (snAt s i).state ∨ ((snAt s i).state = 1 ∧ 2 ≤ (tkAt l i).state ∧ (tkAt l i).state ≤ 5)
  ps : ∀ k, (tkAt l k).state = 1 → (tkAt l k).count = (snAt s k).passed ∧ ∀ j, came s l j = false
  rm : (∀ j, came s l j = false) ∨ held l ≤ room

theorem Acted.turned {s : List Sn} {l : List Tk} {room pass : Int} (h : Acted s l room) : Turned s (letIn room pass l) room := by
  have L := letIn_lets room pass l
  refine ⟨h.len.trans L.len.symm, fun i => (h.wt i).trans (L.wt i).symm, fun i => ?_, fun k hk => ?_, ?_⟩
  · rcases L.st i with e | ⟨e1, e2⟩
    · rw [e]; exact h.st i
    · rcases h.st i with f | ⟨f1, f2, f3⟩
      · right; rw [e1] at f; exact ⟨f.symm, by omega, by omega⟩
      · omega
  · have hk0 := L.back hk
    obtain ⟨c1, c2⟩ := h.ps k hk0
    have c3 := L.ct k hk
    rw [cnt_congr (came s (letIn room pass l)) (newly l (letIn room pass l)) k _ ?_, L.len]
    · omega
    · intro j _ _
      have cj := c2 j
      unfold came newly at *
      apply decide_eq_decide.2
      simp only [decide_eq_false_iff_not] at cj
      constructor
      · rintro ⟨x, y⟩
        exact ⟨fun z => cj ⟨x, z⟩, y⟩
      · rintro ⟨x, y⟩
        refine ⟨fun z => ?_, y⟩
        rcases h.st j with f | ⟨f1, _, _⟩
        · rw [f] at x; exact x z
        · rw [f1] at z; omega
  · rcases letIn_room room pass l with e | e
    · rw [e]; exact h.rm
    · exact Or.inr e

theorem Knows.same {s : List Sn} {l : List Tk} (h : Knows s l) (room : Int) : Acted s l room :=
  ⟨h.len, h.wt, fun i => Or.inl (h.st i).symm, fun k hk => ⟨(h.ps k hk).symm, fun j => by simp [came, h.st j]⟩, Or.inl fun j => by simp [came, h.st j]⟩

end Tg
