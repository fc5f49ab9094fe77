import Derived.Test.YtekjgjhhjlcoaaaModF
namespace Tg

/-! ### A gate without room, and then with room for all -/

/-- What all that hold or wait have together. -/
def wanted : List Tk → Int
  | [] => 0
  | t :: r => (if t.state = 1 ∨ t.state = 2 then t.weight else 0) + wanted r

theorem wanted_enter_aux (l : List Tk) (k : Nat) (hk : k < l.length) (hs : l[k].state = 1) : wanted (l.modify k (setState 2)) = wanted l := by
  induction l generalizing k with
  | nil => simp at hk
  | cons t r ih =>
    cases k with
    | zero => simp at hs; simp [List.modify_zero_cons, wanted, setState, hs]
    | succ k => simp only [List.modify_succ_cons, wanted]; rw [ih k (by simpa using hk) (by simpa using hs)]

theorem wanted_append (a b : List Tk) : wanted (a ++ b) = wanted a + wanted b := by
  induction a with
  | nil => simp [wanted]
  | cons t r ih => simp only [List.cons_append, wanted, ih]; omega

theorem wanted_bump (l : List Tk) : wanted (l.map bumpT) = wanted l := by
  induction l with
  | nil => rfl
  | cons t r ih => simp only [List.map_cons, wanted, ih, bumpT_state, bumpT_weight]

theorem wanted_enter (l : List Tk) (k : Nat) (hk : k < l.length) (hs : l[k].state = 1) : wanted (enter k l) = wanted l := by
  unfold enter bumpTo
  rw [wanted_append, wanted_bump, ← wanted_append, List.take_append_drop]
  exact wanted_enter_aux l k hk hs

theorem wanted_lets (f : Nat) (room pass : Int) (l : List Tk) : wanted (lets f room pass l) = wanted l := by
  induction f generalizing l with
  | zero => rfl
  | succ f ih =>
    unfold Tg.lets
    split
    · rfl
    · rename_i k hk
      split
      · obtain ⟨j, hj, h1, h2, _⟩ := turnBut_waits pass [] l (by unfold turn at hk; omega)
        obtain rfl : j = k := by unfold turn at hk; omega
        rw [ih, wanted_enter l j hj h2]
      · rfl

theorem held_wanted (pass : Int) (l : List Tk) (h : TksOk pass l) (k : Nat) (hk : k < l.length) (hs : l[k].state = 1) : held l + l[k].weight ≤ wanted l := by
  induction l generalizing k with
  | nil => simp at hk
  | cons t r ih =>
    have ht := h t (by simp)
    have hw := ht.w1
    have hr : ∀ r : List Tk, (∀ u ∈ r, TkOk pass u) → held r ≤ wanted r := by
      intro r
      induction r with
      | nil => intro _; simp [held, wanted]
      | cons u r ih =>
        intro hu
        have := ih fun v hv => hu v (by simp [hv])
        have := (hu u (by simp)).w1
        simp only [held, wanted]
        by_cases e : u.state = 2
        · simp [e]; omega
        · by_cases e1 : u.state = 1
          · simp [e1]; omega
          · simp [e, e1]; omega
    cases k with
    | zero =>
      simp at hs
      have := hr r fun u hu => h u (by simp [hu])
      simp [held, wanted, hs]; omega
    | succ k =>
      have := ih (fun u hu => h u (by simp [hu])) k (by simpa using hk) (by simpa using hs)
      simp only [held, wanted, List.getElem_cons_succ]
      by_cases e : t.state = 2
      · simp [e]; omega
      · by_cases e1 : t.state = 1
        · simp [e1]; omega
        · simp [e, e1]; omega

/-- Where there is room for all, nobody waits. -/
theorem letIn_all (room pass : Int) (l : List Tk) (ok : TksOk pass l) (hp : pass ≤ 20) (h : wanted l ≤ room) : ∀ i (hi : i < (letIn room pass l).length), (letIn room pass l)[i].state ≠ 1 := by
  intro i hi hs
  have ok' : TksOk pass (letIn room pass l) := letIn_ok hp ok
  have hw : wanted (letIn room pass l) = wanted l := wanted_lets _ _ _ _
  have hb := ok' _ (List.getElem_mem hi)
  have hpos := turn_pos pass _ i hi hs hb.b1 hb.b2
  rcases letIn_quiet room pass l with q | ⟨k, hk, h1, h2⟩
  · exact hpos q
  · obtain ⟨j, hj, e1, e2, _⟩ := turnBut_waits pass [] (letIn room pass l) (by unfold turn at h1; omega)
    obtain rfl : j = k := by unfold turn at h1; omega
    have := held_wanted pass _ ok' j hj e2
    omega

/-- Where nobody fits, nobody is let in. -/
theorem letIn_none (pass : Int) (l : List Tk) (ok : TksOk pass l) (h : held l = 0) : letIn 0 pass l = l := by
  by_cases ht : turn pass l = 0
  · exact letIn_stop _ _ _ ht
  · obtain ⟨j, hj, e1, _, _⟩ := turnBut_waits pass [] l (by unfold turn at ht; omega)
    have := (ok _ (List.getElem_mem hj)).w1
    exact letIn_full 0 pass l j hj e1 (by omega)

/-- Nobody holds. -/
theorem held_zero (l : List Tk) (h : ∀ t ∈ l, t.state ≠ 2) : held l = 0 := by
  induction l with
  | nil => rfl
  | cons t r ih => simp only [held]; rw [if_neg (h t (by simp)), ih fun u hu => h u (by simp [hu])]; rfl

theorem wanted_le (l : List Tk) (h : ∀ t ∈ l, t.weight = 1) : wanted l ≤ l.length := by
  induction l with
  | nil => simp [wanted]
  | cons t r ih =>
    have := ih fun u hu => h u (by simp [hu])
    have := h t (by simp)
    simp only [wanted, List.length_cons]
    split <;> omega

/-! ### A hall -/

/-- In a hall nobody holds more than there is room for. -/
theorem letIn_held (room pass : Int) (l : List Tk) (h : held l ≤ room) : held (letIn room pass l) ≤ room := by
  rcases letIn_room room pass l with e | e
  · rw [e]; exact h
  · exact e

theorem held_give (l : List Tk) (k : Nat) (hk : k < l.length) (s : Int) (hs : s ≠ 2) (pass : Int) (ok : TksOk pass l) : held (l.modify k (setState s)) ≤ held l := by
  rw [held_modify l k hk s]
  have := (ok _ (List.getElem_mem hk)).w1
  simp only [hs, if_false]
  split <;> omega

theorem held_late (l : List Tk) (now : Int) : held (l.map (lateT now)) = held l := by
  induction l with
  | nil => rfl
  | cons t r ih =>
    simp only [List.map_cons, held, ih]
    rcases lateT_state now t with e | ⟨e1, e2⟩
    · rw [e, lateT_weight]
    · rw [e2, e1]; simp

/-- How many writers, how many readers hold. -/
def writersN (n : Int) : List Tk → List Bool → Int
  | t :: r, b :: bs => (if t.state = 2 ∧ b = true then 1 else 0) + writersN n r bs
  | _, _ => 0
def readersN (n : Int) : List Tk → List Bool → Int
  | t :: r, b :: bs => (if t.state = 2 ∧ b = false then 1 else 0) + readersN n r bs
  | _, _ => 0

/-- Each is a writer or a reader, by its weight. -/
def HallOk (n : Int) : List Tk → List Bool → Prop
  | [], [] => True
  | t :: r, b :: bs => t.weight = (if b then n else 1) ∧ HallOk n r bs
  | _, _ => False

theorem hall_held (n : Int) (l : List Tk) (bs : List Bool) (h : HallOk n l bs) : held l = n * writersN n l bs + readersN n l bs ∧ 0 ≤ writersN n l bs ∧ 0 ≤ readersN n l bs := by
  induction l generalizing bs with
  | nil =>
    cases bs with
    | nil => simp [held, writersN, readersN]
    | cons b bs => exact absurd h (by simp [HallOk])
  | cons t r ih =>
    cases bs with
    | nil => exact absurd h (by simp [HallOk])
    | cons b bs =>
      obtain ⟨h1, h2⟩ := h
      obtain ⟨e1, e2, e3⟩ := ih bs h2
      simp only [held, writersN, readersN, e1]
      by_cases hs : t.state = 2
      · cases b with
        | true =>
          simp [hs] at h1 ⊢
          refine ⟨?_, by omega, by omega⟩
          rw [h1, Int.mul_add]; omega
        | false =>
          simp [hs] at h1 ⊢
          exact ⟨by omega, by omega, by omega⟩
      · simp [hs]; exact ⟨e2, e3⟩

/-- A writer is alone. -/
theorem hall_alone (n : Int) (hn : 2 ≤ n) (l : List Tk) (bs : List Bool) (h : HallOk n l bs) (hh : held l ≤ n) :
    (writersN n l bs = 0 ∧ readersN n l bs ≤ n) ∨ (writersN n l bs = 1 ∧ readersN n l bs = 0) := by
  obtain ⟨e, e1, e2⟩ := hall_held n l bs h
  rcases Int.lt_or_le (writersN n l bs) 1 with x | x
  · left
    have : writersN n l bs = 0 := by omega
    rw [this] at e
    exact ⟨this, by omega⟩
  · right
    have hx : writersN n l bs ≤ 1 := by
      rcases Int.lt_or_le 1 (writersN n l bs) with y | y
      · have : n * 2 ≤ n * writersN n l bs := Int.mul_le_mul_of_nonneg_left (by omega) (by omega)
        omega
      · exact y
    have : writersN n l bs = 1 := by omega
    rw [this] at e
    exact ⟨this, by omega⟩

end Tg
