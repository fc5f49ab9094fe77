import Derived.Test.YtekjgjhhjlcoaaaModH
namespace Tg

/-! ### A hall, from act to act -/

theorem hallOk_iff (n : Int) (l : List Tk) (bs : List Bool) : HallOk n l bs ↔ l.length = bs.length ∧ ∀ k (hk : k < l.length) (hb : k < bs.length), l[k].weight = if bs[k] then n else 1 := by
  induction l generalizing bs with
  | nil =>
    cases bs with
    | nil => simp [HallOk]
    | cons b bs => simp [HallOk]
  | cons t r ih =>
    cases bs with
    | nil => simp [HallOk]
    | cons b bs =>
      simp only [HallOk, ih bs, List.length_cons]
      constructor
      · rintro ⟨h1, h2, h3⟩
        refine ⟨by omega, fun k hk hb => ?_⟩
        cases k with
        | zero => simpa using h1
        | succ k => simpa using h3 k (by omega) (by omega)
      · rintro ⟨h1, h2⟩
        refine ⟨by simpa using h2 0 (by omega) (by omega), by omega, fun k hk hb => ?_⟩
        have h3 := h2 (k + 1) (by omega) (by omega)
        simp only [List.getElem_cons_succ] at h3
        exact h3

/-- A hall of n readers: who has asked, and that what is held fits. -/
structure Hl (n : Int) (g : Gt) (bs : List Bool) : Prop where
  room : g.room = n
  len : g.all.length = bs.length
  wt : ∀ k (hk : k < g.all.length) (hb : k < bs.length), g.all[k].weight = if bs[k] then n else 1
  held : held g.all ≤ n

theorem Hl.ok {n : Int} {g : Gt} {bs : List Bool} (h : Hl n g bs) : HallOk n g.all bs := (hallOk_iff _ _ _).2 ⟨h.len, h.wt⟩

theorem Hl.alone {n : Int} {g : Gt} {bs : List Bool} (h : Hl n g bs) (hn : 2 ≤ n) : (writersN n g.all bs = 0 ∧ readersN n g.all bs ≤ n) ∨ (writersN n g.all bs = 1 ∧ readersN n g.all bs = 0) :=
  hall_alone n hn _ _ h.ok h.held

theorem Lets.get {l l' : List Tk} (h : Lets l l') (k : Nat) (hk : k < l'.length) (hk' : k < l.length) : l'[k].weight = l[k].weight ∧ (l'[k].state = l[k].state ∨ (l[k].state = 1 ∧ l'[k].state = 2)) := by
  have h1 := h.wt k
  have h2 := h.st k
  rw [tkAt_lt hk, tkAt_lt hk'] at h1 h2
  exact ⟨h1, h2⟩

/-- Letting in keeps a hall. -/
theorem Hl.lets {n : Int} {g : Gt} {bs : List Bool} {l : List Tk} (hr : g.room = n) (hl : l.length = bs.length) (hw : ∀ k (hk : k < l.length) (hb : k < bs.length), l[k].weight = if bs[k] then n else 1) (hh : Tg.held l ≤ n) : Hl n { g with all := letIn g.room g.pass l } bs := by
  have L := letIn_lets g.room g.pass l
  refine ⟨hr, by show (letIn g.room g.pass l).length = _; rw [letIn_length]; exact hl, fun k hk hb => ?_, ?_⟩
  · have hk' : k < l.length := by rw [hl]; exact hb
    rw [(L.get k hk hk').1]; exact hw k hk' hb
  · show Tg.held (letIn g.room g.pass l) ≤ n
    rw [← hr]
    exact letIn_held _ _ _ (by rw [hr]; exact hh)

theorem Hl.asked {n : Int} {g : Gt} {bs : List Bool} (h : Hl n g bs) (b : Bool) (weight band wait : Int) (hw : weight = if b then n else 1) : Hl n (asked g weight band wait) (bs ++ [b]) := by
  refine Hl.lets (g := g) h.room (by simp [h.len]) (fun k hk hb => ?_) ?_
  · by_cases e : k < g.all.length
    · rw [List.getElem_append_left e, List.getElem_append_left (by rw [← h.len]; exact e)]; exact h.wt k e _
    · have ek : k = g.all.length := by simp at hk; omega
      subst ek
      rw [List.getElem_append_right (by omega), List.getElem_append_right (by rw [h.len]; omega)]
      simp only [h.len, Nat.sub_self, List.getElem_singleton]
      exact hw
  · rw [held_snoc]
    have hh := h.held
    unfold ticket
    by_cases h1 : turn g.pass g.all = 0 ∧ Tg.held g.all + weight ≤ g.room
    · have := h.room
      simp [h1]; omega
    · by_cases h2 : wait = 0
      · simp [h1, h2]; omega
      · simp [h1, h2]; omega

theorem Hl.changed {n : Int} {g : Gt} {bs : List Bool} (h : Hl n g bs) (ok : GtOk g) (m s s' : Int) (hs : s' ≠ 2) : Hl n (change g m s s').1 bs := by
  unfold change
  split
  · rename_i hv
    split
    · have hm : (m - 1).toNat < g.all.length := by omega
      refine Hl.lets (g := g) h.room (by simp [h.len]) (fun k hk hb => ?_) ?_
      · have hk' : k < g.all.length := by simpa using hk
        rw [List.getElem_modify]
        split
        · show g.all[k].weight = _; exact h.wt k hk' hb
        · exact h.wt k hk' hb
      · have := held_give g.all _ hm s' hs g.pass ok.ok
        have := h.held
        omega
    · exact h
  · exact h

theorem Hl.ticked {n : Int} {g : Gt} {bs : List Bool} (h : Hl n g bs) : Hl n (tick g) bs := by
  refine Hl.lets (g := { g with time := g.time + 1 }) h.room (by simp [h.len]) (fun k hk hb => ?_) ?_
  · have hk' : k < g.all.length := by simpa using hk
    rw [List.getElem_map, lateT_weight]; exact h.wt k hk' hb
  · rw [held_late]; exact h.held

/-! ### The end: all cancel, all give back -/

theorem letIn_idle (room pass : Int) (l : List Tk) (h : ∀ k (hk : k < l.length), l[k].state ≠ 1) : letIn room pass l = l := letIn_stop _ _ _ (turn_none pass l h)

/-- The first i do not wait. -/
def NoWait (i : Nat) (l : List Tk) : Prop := ∀ k, k < i → ∀ hk : k < l.length, l[k].state ≠ 1

theorem NoWait.cancel {i : Nat} {g : Gt} (h : NoWait i g.all) (hi : i < g.all.length) : NoWait (i + 1) (change g ((i : Int) + 1) 1 5).1.all := by
  unfold change
  rw [if_pos (by omega)]
  have e : ((i : Int) + 1 - 1).toNat = i := by omega
  rw [e]
  have eg : g.all.getD i ⟨0, 0, 0, 0, 0⟩ = g.all[i] := by simp [hi]
  rw [eg]
  split
  · intro k hk hkl
    have hkl' : k < (g.all.modify i (setState 5)).length := by rw [← letIn_length g.room g.pass]; exact hkl
    have hkg : k < g.all.length := by simpa using hkl'
    have L := (letIn_lets g.room g.pass (g.all.modify i (setState 5))).get k hkl hkl'
    have hm : (g.all.modify i (setState 5))[k].state ≠ 1 := by
      rw [List.getElem_modify]
      split
      · simp [setState]
      · exact h k (by omega) hkg
    rcases L.2 with x | x
    · rw [x]; exact hm
    · exact absurd x.1 hm
  · rename_i hs
    intro k hk hkl
    by_cases ek : k = i
    · subst ek; exact hs
    · exact h k (by omega) hkl

/-- Nobody waits, and the first i do not hold. -/
structure NoHold (i : Nat) (l : List Tk) : Prop where
  wait : ∀ k (hk : k < l.length), l[k].state ≠ 1
  hold : ∀ k, k < i → ∀ hk : k < l.length, l[k].state ≠ 2

theorem NoHold.give {i : Nat} {g : Gt} (h : NoHold i g.all) (hi : i < g.all.length) : NoHold (i + 1) (change g ((i : Int) + 1) 2 6).1.all := by
  unfold change
  rw [if_pos (by omega)]
  have e : ((i : Int) + 1 - 1).toNat = i := by omega
  rw [e]
  have eg : g.all.getD i ⟨0, 0, 0, 0, 0⟩ = g.all[i] := by simp [hi]
  rw [eg]
  split
  · have hw : ∀ k (hk : k < (g.all.modify i (setState 6)).length), (g.all.modify i (setState 6))[k].state ≠ 1 := by
      intro k hk
      rw [List.getElem_modify]
      split
      · simp [setState]
      · exact h.wait k _
    show NoHold (i + 1) (letIn g.room g.pass (g.all.modify i (setState 6)))
    rw [letIn_idle _ _ _ hw]
    refine ⟨hw, fun k hk hkl => ?_⟩
    rw [List.getElem_modify]
    split
    · simp [setState]
    · rename_i hne; exact h.hold k (by omega) _
  · rename_i hs
    refine ⟨h.wait, fun k hk hkl => ?_⟩
    by_cases ek : k = i
    · subst ek; exact hs
    · exact h.hold k (by omega) hkl

/-- Once nobody waits and nobody holds, a writer comes in. -/
theorem NoHold.write {n : Int} {g : Gt} {bs : List Bool} (H : Hl n g bs) (h : NoHold g.all.length g.all) (hn : 1 ≤ n ∧ n ≤ 100) :
    (ask g n 0 0).2.2.2 = 0 ∧ (ask g n 0 0).2.2.1 = 2 ∧ Tg.held (ask g n 0 0).1.all = n := by
  have he : askErr n 0 0 = 0 := by unfold askErr; rw [if_neg (by omega), if_neg (by omega), if_neg (by omega)]
  have ht := turn_none g.pass g.all h.wait
  have hh : Tg.held g.all = 0 := held_zero _ fun t hm => by
    obtain ⟨k, hk, rfl⟩ := List.getElem_of_mem hm
    exact h.hold k hk hk
  have hts : (ticket g n 0 0).state = 2 := by unfold ticket; simp [ht, hh, H.room]
  have hall : (Tg.asked g n 0 0).all = g.all ++ [ticket g n 0 0] := by
    show letIn g.room g.pass (g.all ++ [ticket g n 0 0]) = _
    exact Quiet.stays (Quiet.hold ht (by rw [hts]; omega))
  have ha : ask g n 0 0 = (Tg.asked g n 0 0, (g.all.length : Int) + 1, ((Tg.asked g n 0 0).all.getD g.all.length ⟨0, 0, 0, 0, 0⟩).state, 0) := by unfold ask; rw [if_pos he]
  rw [ha]
  refine ⟨rfl, ?_, ?_⟩
  · rw [hall, ← hts]; simp
  · rw [hall, held_snoc, hh, hts]; simp [ticket]

theorem writersN_take (n : Int) (l : List Tk) (bs : List Bool) (i : Nat) (h1 : i < l.length) (h2 : i < bs.length) : writersN n (l.take (i + 1)) (bs.take (i + 1)) = writersN n (l.take i) (bs.take i) + (if l[i].state = 2 ∧ bs[i] = true then 1 else 0) := by
  induction l generalizing bs i with
  | nil => simp at h1
  | cons t r ih =>
    cases bs with
    | nil => simp at h2
    | cons b bs =>
      cases i with
      | zero => simp [writersN]
      | succ i =>
        simp only [List.take_succ_cons, writersN, List.getElem_cons_succ]
        rw [ih bs i (by simpa using h1) (by simpa using h2)]; omega
theorem readersN_take (n : Int) (l : List Tk) (bs : List Bool) (i : Nat) (h1 : i < l.length) (h2 : i < bs.length) : readersN n (l.take (i + 1)) (bs.take (i + 1)) = readersN n (l.take i) (bs.take i) + (if l[i].state = 2 ∧ bs[i] = false then 1 else 0) := by
  induction l generalizing bs i with
  | nil => simp at h1
  | cons t r ih =>
    cases bs with
    | nil => simp at h2
    | cons b bs =>
      cases i with
      | zero => simp [readersN]
      | succ i =>
        simp only [List.take_succ_cons, readersN, List.getElem_cons_succ]
        rw [ih bs i (by simpa using h1) (by simpa using h2)]; omega

end Tg
