import Derived.Test.YtekjgjhhjlcoaaaKeepB
namespace Tg

/-- How one stands that is to wait until u (-1: for ever, -2: refused), at a time. -/
def stc (u now : Int) : Int := if u = -2 then 3 else if 0 ≤ u ∧ u ≤ now then 4 else 1

/-- A gate without room, and until when each was to wait. -/
structure Ck (us : List Int) (g : Gt) : Prop where
  len : us.length = g.all.length
  room : g.room = 0
  wt : ∀ k (hk : k < g.all.length), g.all[k].weight = 1
  low : ∀ k (hk : k < us.length), -2 ≤ us[k]
  st : ∀ k (hk : k < g.all.length) (hu : k < us.length), g.all[k].state = stc us[k] g.time
  tl : ∀ k (hk : k < g.all.length) (hu : k < us.length), g.all[k].state = 1 → g.all[k].till = us[k]

theorem stc_ne (u now : Int) : stc u now ≠ 2 := by unfold stc; split <;> (try split) <;> omega

theorem Ck.none {us : List Int} {g : Gt} (h : Ck us g) : held g.all = 0 := by
  refine held_zero _ fun t ht => ?_
  obtain ⟨k, hk, rfl⟩ := List.getElem_of_mem ht
  rw [h.st k hk (by rw [h.len]; exact hk)]
  exact stc_ne _ _

/-- Until when: what is asked for at a time. -/
def untilOf (w now : Int) : Int := if w = 0 then -2 else if w < 0 then -1 else now + w

theorem Ck.asks {us : List Int} {g : Gt} (h : Ck us g) (ok : GtOk g) (b w : Int) (hb : 0 ≤ b ∧ b ≤ 2) (hw : -1 ≤ w ∧ w ≤ 7) :
    Ck (us ++ [untilOf w g.time]) (asked g 1 b w) ∧ (ask g 1 b w).1 = asked g 1 b w ∧ (ask g 1 b w).2.1 = (us.length : Int) + 1 ∧ (ask g 1 b w).2.2.1 = (if w = 0 then 3 else 1) ∧ (ask g 1 b w).2.2.2 = 0 ∧ (asked g 1 b w).time = g.time ∧ (asked g 1 b w).pass = g.pass := by
  have hh := h.none
  have he : askErr 1 b w = 0 := by unfold askErr; rw [if_neg (by omega), if_neg (by omega), if_neg (by omega)]
  have tok := ticket_ok g 1 b w ok he
  have hts : (ticket g 1 b w).state = if w = 0 then 3 else 1 := by
    unfold ticket
    simp only
    rw [if_neg (by rw [hh, h.room]; rintro ⟨_, x⟩; omega)]
  have hall : (asked g 1 b w).all = g.all ++ [ticket g 1 b w] := by
    show letIn g.room g.pass (g.all ++ [ticket g 1 b w]) = _
    rw [h.room]
    refine letIn_none g.pass _ (ok.ok.snoc tok) ?_
    rw [held_snoc, hh, hts]
    by_cases e0 : w = 0 <;> simp [e0]
  have hst : ((asked g 1 b w).all.getD g.all.length ⟨0, 0, 0, 0, 0⟩).state = if w = 0 then 3 else 1 := by rw [hall, ← hts]; simp
  have ha : ask g 1 b w = (asked g 1 b w, (g.all.length : Int) + 1, ((asked g 1 b w).all.getD g.all.length ⟨0, 0, 0, 0, 0⟩).state, 0) := by unfold ask; rw [if_pos he]
  refine ⟨⟨?_, h.room, fun k hk => ?_, fun k hk => ?_, fun k hk hu => ?_, fun k hk hu => ?_⟩, by rw [ha], by rw [ha, h.len], by rw [ha]; exact hst, by rw [ha], rfl, rfl⟩
  · rw [hall]; simp [h.len]
  · simp only [hall] at hk ⊢
    by_cases e : k < g.all.length
    · rw [List.getElem_append_left e]; exact h.wt k e
    · rw [List.getElem_append_right (by omega)]; simp [ticket]
  · by_cases e : k < us.length
    · rw [List.getElem_append_left e]; exact h.low k e
    · rw [List.getElem_append_right (by omega)]
      simp only [List.getElem_singleton]
      unfold untilOf
      have := ok.t1
      split
      · omega
      · split <;> omega
  · show (asked g 1 b w).all[k].state = stc _ g.time
    simp only [hall] at hk ⊢
    by_cases e : k < g.all.length
    · rw [List.getElem_append_left e, List.getElem_append_left (by rw [h.len]; exact e)]; exact h.st k e _
    · have ek : k = g.all.length := by simp at hk; omega
      subst ek
      rw [List.getElem_append_right (by omega), List.getElem_append_right (by rw [h.len]; omega)]
      simp only [List.getElem_singleton, Nat.sub_self]
      rw [hts]
      unfold untilOf stc
      have := ok.t1
      by_cases e0 : w = 0
      · simp [e0]
      · by_cases e1 : w < 0
        · simp [e0, e1]
        · rw [if_neg e0, if_neg e0, if_neg e1, if_neg (by omega), if_neg (by omega)]
  · simp only [hall] at hk ⊢
    by_cases e : k < g.all.length
    · rw [List.getElem_append_left e, List.getElem_append_left (by rw [h.len]; exact e)]; exact h.tl k e _
    · have ek : k = g.all.length := by simp at hk; omega
      subst ek
      rw [List.getElem_append_right (by omega), List.getElem_append_right (by rw [h.len]; omega)]
      simp only [List.getElem_singleton, Nat.sub_self]
      rw [hts]
      intro hx
      by_cases e0 : w = 0
      · rw [if_pos e0] at hx; omega
      · by_cases e1 : w < 0
        · have e2 : ¬ 0 < w := by omega
          simp [untilOf, ticket, e0, e1, e2]
        · have e2 : 0 < w := by omega
          simp [untilOf, ticket, e0, e1, e2]

theorem Ck.ticks {us : List Int} {g : Gt} (h : Ck us g) (ok : GtOk g) : Ck us (tick g) := by
  have hh := h.none
  have hall : (Tg.tick g).all = g.all.map (lateT (g.time + 1)) := by
    show letIn g.room g.pass (g.all.map (lateT (g.time + 1))) = _
    rw [h.room]
    refine letIn_none g.pass _ (fun t hm => ?_) ?_
    · obtain ⟨u, hu, rfl⟩ := List.mem_map.1 hm
      exact lateT_ok (ok.ok u hu)
    · rw [held_late, hh]
  have gt : ∀ k (hk : k < (Tg.tick g).all.length), ∃ hk' : k < g.all.length, (Tg.tick g).all[k] = lateT (g.time + 1) g.all[k] := by
    intro k hk
    have hk' : k < g.all.length := by rw [hall] at hk; simpa using hk
    exact ⟨hk', by simp [hall]⟩
  have ht : (Tg.tick g).time = g.time + 1 := rfl
  refine ⟨by rw [hall]; simp [h.len], h.room, fun k hk => ?_, h.low, fun k hk hu => ?_, fun k hk hu => ?_⟩
  · obtain ⟨hk', e⟩ := gt k hk
    rw [e, lateT_weight]; exact h.wt k hk'
  · obtain ⟨hk', e⟩ := gt k hk
    rw [e, ht]
    have hs := h.st k hk' hu
    have hlow := h.low k hu
    have htl := h.tl k hk' hu
    have t1 := ok.t1
    unfold lateT
    by_cases hc : g.all[k].state = 1 ∧ g.all[k].till = g.time + 1
    · rw [if_pos hc]
      have := htl hc.1
      show (4 : Int) = _
      unfold stc
      rw [if_neg (by omega), if_pos (by omega)]
    · rw [if_neg hc, hs]
      unfold stc at hs ⊢
      by_cases e2 : us[k] = -2
      · rw [if_pos e2, if_pos e2]
      · rw [if_neg e2] at hs ⊢
        rw [if_neg e2]
        by_cases e3 : 0 ≤ us[k] ∧ us[k] ≤ g.time
        · rw [if_pos e3, if_pos (by omega)]
        · rw [if_neg e3] at hs ⊢
          have := htl hs
          have : us[k] ≠ g.time + 1 := fun x => hc ⟨hs, by omega⟩
          rw [if_neg (by omega)]
  · obtain ⟨hk', e⟩ := gt k hk
    rw [e]
    unfold lateT
    split
    · intro x; simp [setState] at x
    · exact h.tl k hk' hu

/-- Where there is room for all: who waited holds, and nobody else has changed. -/
theorem Ck.opens {us : List Int} {g : Gt} (h : Ck us g) (ok : GtOk g) (hl : g.all.length ≤ 1000) :
    ∀ k (hk : k < (letIn 1000 g.pass g.all).length) (hu : k < us.length), (letIn 1000 g.pass g.all)[k].weight = 1 ∧ (letIn 1000 g.pass g.all)[k].state = (if us[k] = -1 ∨ g.time < us[k] then 2 else stc us[k] g.time) := by
  intro k hk hu
  have L := letIn_lets 1000 g.pass g.all
  have hk' : k < g.all.length := by rw [letIn_length] at hk; exact hk
  have hw : wanted g.all ≤ 1000 := by
    have := wanted_le g.all (fun t ht => by obtain ⟨j, hj, rfl⟩ := List.getElem_of_mem ht; exact h.wt j hj)
    omega
  have hn := letIn_all 1000 g.pass g.all ok.ok ok.p2 hw k hk
  have h1 := L.wt k
  have h2 := L.st k
  rw [tkAt_lt hk, tkAt_lt hk'] at h1 h2
  refine ⟨h1.trans (h.wt k hk'), ?_⟩
  have hs := h.st k hk' hu
  have hlow := h.low k hu
  have t1 := ok.t1
  rw [hs] at h2
  have h1s : stc us[k] g.time = 1 ↔ (us[k] = -1 ∨ g.time < us[k]) := by
    unfold stc
    by_cases e2 : us[k] = -2
    · rw [if_pos e2]; constructor <;> intro x <;> omega
    · rw [if_neg e2]
      by_cases e3 : 0 ≤ us[k] ∧ us[k] ≤ g.time
      · rw [if_pos e3]; constructor <;> intro x <;> omega
      · rw [if_neg e3]; constructor <;> intro x <;> omega
  by_cases hc : us[k] = -1 ∨ g.time < us[k]
  · rw [if_pos hc]
    have := h1s.2 hc
    rcases h2 with x | x
    · rw [this] at x; exact absurd x hn
    · exact x.2
  · rw [if_neg hc]
    rcases h2 with x | x
    · exact x
    · exact absurd (h1s.1 x.1) hc
end Tg
