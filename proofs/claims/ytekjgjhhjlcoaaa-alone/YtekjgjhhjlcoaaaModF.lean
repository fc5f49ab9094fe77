import Derived.Test.YtekjgjhhjlcoaaaModE
namespace Tg

theorem tkAt_modify (l : List Tk) (k : Nat) (f : Tk → Tk) (i : Nat) (hk : k < l.length) : tkAt (l.modify k f) i = if i = k then f (tkAt l i) else tkAt l i := by
  by_cases hi : i < l.length
  · rw [tkAt_lt (by simpa using hi), tkAt_lt hi, List.getElem_modify]
    by_cases e : k = i
    · subst e; simp
    · rw [if_neg e, if_neg (fun x => e x.symm)]
  · rw [tkAt_ge (by simp; omega), tkAt_ge (by omega), if_neg (by omega)]

theorem snAt_modify (l : List Sn) (k : Nat) (f : Sn → Sn) (i : Nat) (hk : k < l.length) : snAt (l.modify k f) i = if i = k then f (snAt l i) else snAt l i := by
  by_cases hi : i < l.length
  · rw [snAt_lt (by simpa using hi), snAt_lt hi, List.getElem_modify]
    by_cases e : k = i
    · subst e; simp
    · rw [if_neg e, if_neg (fun x => e x.symm)]
  · rw [snAt_ge (by simp; omega), snAt_ge (by omega), if_neg (by omega)]

theorem tkAt_snoc (l : List Tk) (t : Tk) (i : Nat) : tkAt (l ++ [t]) i = if i = l.length then t else tkAt l i := by
  by_cases h1 : i < l.length
  · rw [tkAt_lt (by simp; omega), tkAt_lt h1, if_neg (by omega), List.getElem_append_left h1]
  · by_cases h2 : i = l.length
    · subst h2; rw [if_pos rfl, tkAt_lt (by simp)]; simp
    · rw [if_neg h2, tkAt_ge (by simp; omega), tkAt_ge (by omega)]

theorem snAt_snoc (l : List Sn) (t : Sn) (i : Nat) : snAt (l ++ [t]) i = if i = l.length then t else snAt l i := by
  by_cases h1 : i < l.length
  · rw [snAt_lt (by simp; omega), snAt_lt h1, if_neg (by omega), List.getElem_append_left h1]
  · by_cases h2 : i = l.length
    · subst h2; rw [if_pos rfl, snAt_lt (by simp)]; simp
    · rw [if_neg h2, snAt_ge (by simp; omega), snAt_ge (by omega)]

theorem tkAt_map (l : List Tk) (f : Tk → Tk) (i : Nat) (hf : f zeroT = zeroT) : tkAt (l.map f) i = f (tkAt l i) := by
  by_cases hi : i < l.length
  · rw [tkAt_lt (by simpa using hi), tkAt_lt hi]; simp
  · rw [tkAt_ge (by simp; omega), tkAt_ge (by omega), hf]

theorem zeroT_late (now : Int) : lateT now zeroT = zeroT := by unfold lateT; rw [if_neg (by simp [zeroT])]

/-- A ticket gives back. -/
theorem Knows.give {s : List Sn} {l : List Tk} (h : Knows s l) (n : Nat) (hn : n < l.length) (room : Int) :
    Acted (s.modify n fun t => { t with state := 6 }) (l.modify n (setState 6)) room := by
  have hn' : n < s.length := by rw [h.len]; exact hn
  have e1 := fun i => tkAt_modify l n (setState 6) i hn
  have e2 := fun i => snAt_modify s n (fun t => { t with state := 6 }) i hn'
  have same : ∀ i, (tkAt (l.modify n (setState 6)) i).state = (snAt (s.modify n fun t => { t with state := 6 }) i).state := by
    intro i
    rw [e1, e2]
    split
    · rfl
    · exact (h.st i).symm
  have nc : ∀ j, came (s.modify n fun t => { t with state := 6 }) (l.modify n (setState 6)) j = false := fun j => by simp [came, same j]
  refine ⟨by simp [h.len], fun i => ?_, fun i => Or.inl (same i), fun k hk => ⟨?_, nc⟩, Or.inl nc⟩
  · rw [e1, e2]; split <;> exact h.wt i
  · rw [e1] at hk ⊢
    rw [e2]
    split
    · rename_i e; rw [if_pos e] at hk; simp [setState] at hk
    · rename_i e; rw [if_neg e] at hk; exact (h.ps k hk).symm

/-- A ticket is cancelled. -/
theorem Knows.cancel {s : List Sn} {l : List Tk} (h : Knows s l) (n : Nat) (hn : n < l.length) (hs : (tkAt l n).state = 1) (room : Int) : Acted s (l.modify n (setState 5)) room := by
  have e1 := fun i => tkAt_modify l n (setState 5) i hn
  have nc : ∀ j, came s (l.modify n (setState 5)) j = false := by
    intro j
    simp only [came, e1, decide_eq_false_iff_not]
    rintro ⟨x, y⟩
    split at y
    · simp [setState] at y
    · exact x ((h.st j).trans y)
  refine ⟨by simp [h.len], fun i => ?_, fun i => ?_, fun k hk => ⟨?_, nc⟩, Or.inl nc⟩
  · rw [e1]; split <;> exact h.wt i
  · rw [e1]; split
    · rename_i e; subst e; exact Or.inr ⟨(h.st i).trans hs, by simp [setState], by simp [setState]⟩
    · exact Or.inl (h.st i).symm
  · rw [e1] at hk ⊢
    split
    · rename_i e; rw [if_pos e] at hk; simp [setState] at hk
    · rename_i e; rw [if_neg e] at hk; exact (h.ps k hk).symm

theorem lateT_state (now : Int) (t : Tk) : (lateT now t).state = t.state ∨ (t.state = 1 ∧ (lateT now t).state = 4) := by
  unfold lateT
  split
  · rename_i h; exact Or.inr ⟨h.1, rfl⟩
  · exact Or.inl rfl
theorem lateT_weight (now : Int) (t : Tk) : (lateT now t).weight = t.weight := by unfold lateT; split <;> rfl
theorem lateT_count (now : Int) (t : Tk) : (lateT now t).count = t.count := by unfold lateT; split <;> rfl

/-- A tick. -/
theorem Knows.tick {s : List Sn} {l : List Tk} (h : Knows s l) (now room : Int) : Acted s (l.map (lateT now)) room := by
  have e1 := fun i => tkAt_map l (lateT now) i (zeroT_late now)
  have nc : ∀ j, came s (l.map (lateT now)) j = false := by
    intro j
    simp only [came, e1, decide_eq_false_iff_not]
    rintro ⟨x, y⟩
    rcases lateT_state now (tkAt l j) with e | ⟨_, e⟩
    · rw [e] at y; exact x ((h.st j).trans y)
    · omega
  refine ⟨by simp [h.len], fun i => ?_, fun i => ?_, fun k hk => ⟨?_, nc⟩, Or.inl nc⟩
  · rw [e1, lateT_weight]; exact h.wt i
  · rw [e1]
    rcases lateT_state now (tkAt l i) with e | ⟨e, e2⟩
    · exact Or.inl (e.trans (h.st i).symm)
    · exact Or.inr ⟨(h.st i).trans e, by omega, by omega⟩
  · rw [e1] at hk ⊢
    rw [lateT_count]
    rcases lateT_state now (tkAt l k) with e | ⟨_, e⟩
    · rw [e] at hk; exact (h.ps k hk).symm
    · omega

theorem held_snoc (l : List Tk) (t : Tk) : held (l ++ [t]) = held l + (if t.state = 2 then t.weight else 0) := by rw [held_append]; simp [held]

/-- One asks. -/
theorem Knows.ask {s : List Sn} {l : List Tk} (h : Knows s l) {pass room : Int} (ok : TksOk pass l) (t : Tk) (hc : t.count = 0) (hs : t.state = 1 ∨ t.state = 3 ∨ (t.state = 2 ∧ turn pass l = 0 ∧ held l + t.weight ≤ room)) :
    Acted (s ++ [⟨t.weight, 1, 0⟩]) (l ++ [t]) room := by
  have e1 := fun i => tkAt_snoc l t i
  have e2 := fun i => snAt_snoc s ⟨t.weight, 1, 0⟩ i
  have hl := h.len
  have old : ∀ j, j ≠ l.length → came (s ++ [⟨t.weight, 1, 0⟩]) (l ++ [t]) j = false := by
    intro j hj
    simp only [came, e1, e2, hl, if_neg hj, decide_eq_false_iff_not]
    rintro ⟨x, y⟩
    exact x ((h.st j).trans y)
  have nc : t.state ≠ 2 → ∀ j, came (s ++ [⟨t.weight, 1, 0⟩]) (l ++ [t]) j = false := by
    intro ht j
    by_cases hj : j = l.length
    · simp only [came, e1, e2, hl, if_pos hj, decide_eq_false_iff_not]
      rintro ⟨_, y⟩; exact ht y
    · exact old j hj
  refine ⟨by simp [hl], fun i => ?_, fun i => ?_, fun k hk => ⟨?_, ?_⟩, ?_⟩
  · rw [e1, e2, hl]; split
    · rfl
    · exact h.wt i
  · rw [e1, e2, hl]; split
    · rcases hs with x | x | x
      · exact Or.inl x
      · exact Or.inr ⟨rfl, by omega, by omega⟩
      · exact Or.inr ⟨rfl, by omega, by omega⟩
    · exact Or.inl (h.st i).symm
  · rw [e1] at hk ⊢
    rw [e2, hl]
    split
    · exact hc
    · rename_i e; rw [if_neg e] at hk; exact (h.ps k hk).symm
  · rcases hs with x | x | ⟨x, y, _⟩
    · exact nc (by omega)
    · exact nc (by omega)
    · exfalso
      rw [e1] at hk
      split at hk
      · omega
      · have hkl : k < l.length := by
          by_cases hkl : k < l.length
          · exact hkl
          · rw [tkAt_ge (by omega)] at hk; simp [zeroT] at hk
        rw [tkAt_lt hkl] at hk
        have ko := ok _ (List.getElem_mem hkl)
        exact turn_pos pass l k hkl hk ko.b1 ko.b2 y
  · rcases hs with x | x | ⟨x, y, z⟩
    · exact Or.inl (nc (by omega))
    · exact Or.inl (nc (by omega))
    · right; rw [held_snoc, if_pos x]; exact z

theorem ticket_acted {s : List Sn} {g : Gt} (h : Knows s g.all) (ok : GtOk g) (weight band wait : Int) : Acted (s ++ [⟨weight, 1, 0⟩]) (g.all ++ [ticket g weight band wait]) g.room := by
  refine h.ask ok.ok (ticket g weight band wait) rfl ?_
  unfold ticket
  by_cases h1 : turn g.pass g.all = 0 ∧ held g.all + weight ≤ g.room
  · exact Or.inr (Or.inr ⟨by simp [h1], h1.1, h1.2⟩)
  · by_cases h2 : wait = 0
    · right; left; simp [h1, h2]
    · left; simp [h1, h2]

/-! ### Looking on -/

/-- What is known behind looking at the first i. -/
def lookAt (s : List Sn) (l : List Tk) (i k : Nat) : Sn :=
  if k < i then ⟨(snAt s k).weight, (tkAt l k).state, (snAt s k).passed + (if (tkAt l k).state = 1 then (cnt (came s l) k i : Int) else 0)⟩ else snAt s k

theorem Turned.knows {s s' : List Sn} {l : List Tk} {room : Int} (h : Turned s l room) (hl : s'.length = s.length) (hs : ∀ k, k < s.length → snAt s' k = lookAt s l s.length k) : Knows s' l := by
  have out : ∀ k, ¬ k < s.length → snAt s' k = ⟨0, 0, 0⟩ ∧ tkAt l k = zeroT := fun k hk => ⟨snAt_ge (by omega), tkAt_ge (by have := h.len; omega)⟩
  refine ⟨hl.trans h.len, fun k => ?_, fun k => ?_, fun k hk => ?_⟩
  · by_cases e : k < s.length
    · rw [hs k e, lookAt, if_pos e]; exact h.wt k
    · rw [(out k e).1, (out k e).2]; rfl
  · by_cases e : k < s.length
    · rw [hs k e, lookAt, if_pos e]
    · rw [(out k e).1, (out k e).2]; rfl
  · by_cases e : k < s.length
    · rw [hs k e, lookAt, if_pos e, h.ps k hk, if_pos hk, h.len]
    · rw [(out k e).2] at hk; simp [zeroT] at hk

theorem cnt_low (f : Nat → Bool) (a b : Nat) (h : b ≤ a + 1) : cnt f a b = 0 := cnt_none f a b fun j h1 h2 => by omega

/-- One look more: those ahead of it are passed by, if it came in. -/
theorem lookAt_succ (s : List Sn) (l : List Tk) (i k : Nat) :
    lookAt s l (i + 1) k = if k = i then { snAt s k with state := (tkAt l k).state } else if k < i ∧ (tkAt l k).state = 1 ∧ came s l i = true then { lookAt s l i k with passed := (lookAt s l i k).passed + 1 } else lookAt s l i k := by
  unfold lookAt
  by_cases e : k = i
  · subst e
    rw [if_pos (by omega), if_pos rfl, cnt_low _ _ _ (by omega)]
    simp
  · by_cases e2 : k < i
    · rw [if_pos (by omega), if_neg e, if_pos e2]
      by_cases e3 : (tkAt l k).state = 1
      · cases hc : came s l i with
        | true => simp [e3, cnt, hc, e2]; omega
        | false => simp [e3, cnt, hc]
      · simp [e3]
    · rw [if_neg (by omega), if_neg e, if_neg e2, if_neg (by omega)]

/-- Nobody that waits has been passed by more often than the bound says. -/
theorem Knows.bound {s : List Sn} {l : List Tk} {pass : Int} (h : Knows s l) (ok : TksOk pass l) (k : Nat) (hk : k < s.length) : (snAt s k).state ≠ 1 ∨ (snAt s k).passed ≤ pass := by
  by_cases e : (tkAt l k).state = 1
  · right
    rw [h.ps k e]
    have hkl : k < l.length := by rw [← h.len]; exact hk
    rw [tkAt_lt hkl] at e ⊢
    exact (ok _ (List.getElem_mem hkl)).c3 e
  · left; rw [h.st k]; exact e

end Tg
