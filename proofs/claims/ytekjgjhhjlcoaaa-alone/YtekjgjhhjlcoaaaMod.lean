namespace Tg

structure Tk where
  weight : Int
  band : Int
  till : Int
  count : Int
  state : Int

structure Gt where
  room : Int
  pass : Int
  time : Int
  all : List Tk

/-- What those that hold have together. -/
def held : List Tk → Int
  | [] => 0
  | t :: r => (if t.state = 2 then t.weight else 0) + held r

theorem held_append (a b : List Tk) : held (a ++ b) = held a + held b := by
  induction a with
  | nil => simp [held]
  | cons t r ih => simp only [List.cons_append, held, ih]; omega

theorem held_take_succ (l : List Tk) (k : Nat) (h : k < l.length) : held (l.take (k + 1)) = held (l.take k) + (if l[k].state = 2 then l[k].weight else 0) := by
  rw [List.take_succ_eq_append_getElem h, held_append]; simp [held]

/-- The first place, counted from one, at which a test says yes; 0 if there is none. -/
def first (p : Nat → Tk → Bool) : Nat → List Tk → Nat
  | _, [] => 0
  | i, t :: r => if p i t then i + 1 else first p (i + 1) r

theorem first_none (p : Nat → Tk → Bool) (l : List Tk) (i : Nat) (h : ∀ k (hk : k < l.length), p (i + k) l[k] = false) : first p i l = 0 := by
  induction l generalizing i with
  | nil => rfl
  | cons t r ih =>
    have h0 := h 0 (by simp)
    simp at h0
    simp only [first, h0]
    refine ih (i + 1) fun k hk => ?_
    have := h (k + 1) (by simp; omega)
    simpa [Nat.add_assoc, Nat.add_comm 1 k] using this

theorem first_some (p : Nat → Tk → Bool) (l : List Tk) (i k : Nat) (hk : k < l.length) (hp : p (i + k) l[k] = true) (h : ∀ j (hj : j < k), p (i + j) (l[j]'(by omega)) = false) : first p i l = i + k + 1 := by
  induction l generalizing i k with
  | nil => simp at hk
  | cons t r ih =>
    cases k with
    | zero => simp at hp; simp [first, hp]
    | succ k =>
      have h0 := h 0 (by omega)
      simp at h0
      simp only [first, h0]
      have := ih (i + 1) k (by simpa using hk) (by simpa [Nat.add_assoc, Nat.add_comm 1 k] using hp) (fun j hj => by
        have := h (j + 1) (by omega)
        simpa [Nat.add_assoc, Nat.add_comm 1 j] using this)
      simp only [Bool.false_eq_true, if_false]
      omega

/-- What 'first' says: nothing, or a place at which the test says yes, and ahead of it never. -/
theorem first_cases (p : Nat → Tk → Bool) (l : List Tk) (i : Nat) :
    (first p i l = 0 ∧ ∀ k (hk : k < l.length), p (i + k) l[k] = false) ∨
    ∃ k, ∃ hk : k < l.length, first p i l = i + k + 1 ∧ p (i + k) l[k] = true ∧ ∀ j (hj : j < k), p (i + j) (l[j]'(by omega)) = false := by
  induction l generalizing i with
  | nil => exact Or.inl ⟨rfl, fun k hk => absurd hk (by simp)⟩
  | cons t r ih =>
    cases h0 : p i t with
    | true => exact Or.inr ⟨0, by simp, by simp [first, h0], by simpa using h0, fun j hj => absurd hj (by omega)⟩
    | false =>
      rcases ih (i + 1) with ⟨h1, h2⟩ | ⟨k, hk, h1, h2, h3⟩
      · refine Or.inl ⟨by simp [first, h0, h1], fun k hk => ?_⟩
        cases k with
        | zero => simpa using h0
        | succ k => have := h2 k (by simpa using hk); simpa [Nat.add_assoc, Nat.add_comm 1 k] using this
      · refine Or.inr ⟨k + 1, by simpa using hk, ?_, ?_, fun j hj => ?_⟩
        · simp only [first, h0, Bool.false_eq_true, if_false, h1]; omega
        · simpa [Nat.add_assoc, Nat.add_comm 1 k] using h2
        · cases j with
          | zero => simpa using h0
          | succ j => have := h3 j (by omega); simpa [Nat.add_assoc, Nat.add_comm 1 j] using this

def dueB (pass : Int) (but : List Int) (i : Nat) (t : Tk) : Bool := t.state == 1 && decide (pass ≤ t.count) && !but.contains ((i : Int) + 1)
def bandB (band : Int) (but : List Int) (i : Nat) (t : Tk) : Bool := t.state == 1 && t.band == band && !but.contains ((i : Int) + 1)

/-- Whose turn it is, but for some: its place counted from one; 0: nobody waits. -/
def turnBut (pass : Int) (but : List Int) (l : List Tk) : Nat :=
  if first (dueB pass but) 0 l ≠ 0 then first (dueB pass but) 0 l
  else if first (bandB 0 but) 0 l ≠ 0 then first (bandB 0 but) 0 l
  else if first (bandB 1 but) 0 l ≠ 0 then first (bandB 1 but) 0 l
  else first (bandB 2 but) 0 l

def turn (pass : Int) (l : List Tk) : Nat := turnBut pass [] l

theorem first_le (p : Nat → Tk → Bool) (l : List Tk) : first p 0 l ≤ l.length := by
  rcases first_cases p l 0 with ⟨h, _⟩ | ⟨k, hk, h, _⟩ <;> omega

theorem turnBut_le (pass : Int) (but : List Int) (l : List Tk) : turnBut pass but l ≤ l.length := by
  unfold turnBut
  have h1 := first_le (dueB pass but) l
  have h2 := first_le (bandB 0 but) l
  have h3 := first_le (bandB 1 but) l
  have h4 := first_le (bandB 2 but) l
  split
  · exact h1
  · split
    · exact h2
    · split
      · exact h3
      · exact h4

/-- The one whose turn it is waits, and is none of the others. -/
theorem turnBut_waits (pass : Int) (but : List Int) (l : List Tk) (h : turnBut pass but l ≠ 0) :
    ∃ k, ∃ hk : k < l.length, turnBut pass but l = k + 1 ∧ l[k].state = 1 ∧ but.contains ((k : Int) + 1) = false := by
  have key : ∀ (p : Nat → Tk → Bool), (∀ i t, p i t = true → t.state = 1 ∧ but.contains ((i : Int) + 1) = false) → first p 0 l ≠ 0 →
      ∃ k, ∃ hk : k < l.length, first p 0 l = k + 1 ∧ l[k].state = 1 ∧ but.contains ((k : Int) + 1) = false := by
    intro p hp hne
    rcases first_cases p l 0 with ⟨h0, _⟩ | ⟨k, hk, h1, h2, _⟩
    · exact absurd h0 hne
    · have := hp _ _ h2
      simp only [Nat.zero_add] at this h1
      exact ⟨k, hk, h1, this.1, this.2⟩
  have hd : ∀ i t, dueB pass but i t = true → t.state = 1 ∧ but.contains ((i : Int) + 1) = false := by
    intro i t ht
    simp only [dueB, Bool.and_eq_true, beq_iff_eq, Bool.not_eq_true'] at ht
    exact ⟨ht.1.1, ht.2⟩
  have hb : ∀ band i t, bandB band but i t = true → t.state = 1 ∧ but.contains ((i : Int) + 1) = false := by
    intro band i t ht
    simp only [bandB, Bool.and_eq_true, beq_iff_eq, Bool.not_eq_true'] at ht
    exact ⟨ht.1.1, ht.2⟩
  unfold turnBut at h ⊢
  split
  · rename_i hn; exact key _ hd hn
  · rename_i hn
    rw [if_neg hn] at h
    split
    · rename_i hn2; exact key _ (hb 0) hn2
    · rename_i hn2
      rw [if_neg hn2] at h
      split
      · rename_i hn3; exact key _ (hb 1) hn3
      · rename_i hn3
        rw [if_neg hn3] at h
        exact key _ (hb 2) h

def setState (s : Int) (t : Tk) : Tk := { t with state := s }
def bumpT (t : Tk) : Tk := if t.state = 1 then { t with count := t.count + 1 } else t

/-- Those ahead of place j are passed by. -/
def bumpTo (j : Nat) (l : List Tk) : List Tk := (l.take j).map bumpT ++ l.drop j

/-- The one at place k comes in. -/
def enter (k : Nat) (l : List Tk) : List Tk := bumpTo k (l.modify k (setState 2))

theorem bumpTo_length (j : Nat) (l : List Tk) : (bumpTo j l).length = l.length := by
  simp [bumpTo]; omega

theorem enter_length (k : Nat) (l : List Tk) : (enter k l).length = l.length := by
  simp [enter, bumpTo_length]

theorem bumpTo_zero (l : List Tk) : bumpTo 0 l = l := by simp [bumpTo]

theorem bumpTo_get (j : Nat) (l : List Tk) (i : Nat) : (bumpTo j l)[i]? = if i < j then l[i]?.map bumpT else l[i]? := by
  unfold bumpTo
  rw [List.getElem?_append]
  by_cases hl : i < l.length
  · by_cases h : i < j
    · rw [if_pos (by simp; omega), if_pos h]
      simp [h]
    · rw [if_neg (by simp; omega), if_neg h]
      simp only [List.getElem?_drop, List.length_map, List.length_take]
      congr 1
      omega
  · rw [List.getElem?_eq_none (by omega : l.length ≤ i)]
    have h1 : (List.map bumpT (List.take j l))[i]? = none := List.getElem?_eq_none (by simp; omega)
    have h2 : (List.drop j l)[i - (List.map bumpT (List.take j l)).length]? = none := List.getElem?_eq_none (by simp; omega)
    rw [h1, h2]
    simp

theorem bumpTo_getElem (j : Nat) (l : List Tk) (i : Nat) (hi : i < (bumpTo j l).length) : (bumpTo j l)[i] = if i < j then bumpT (l[i]'(by simpa [bumpTo_length] using hi)) else l[i]'(by simpa [bumpTo_length] using hi) := by
  have hl : i < l.length := by simpa [bumpTo_length] using hi
  apply Option.some.inj
  rw [← List.getElem?_eq_getElem, bumpTo_get, List.getElem?_eq_getElem hl]
  split <;> rfl

theorem enter_getElem (k : Nat) (l : List Tk) (i : Nat) (hi : i < l.length) : (enter k l)[i]'(by simpa [enter_length] using hi) = if i < k then bumpT l[i] else if i = k then setState 2 l[i] else l[i] := by
  apply Option.some.inj
  rw [← List.getElem?_eq_getElem]
  unfold enter
  rw [bumpTo_get, List.getElem?_modify, List.getElem?_eq_getElem hi]
  simp only [Option.map_eq_map, Option.map_some]
  by_cases h : i < k
  · have e : ¬ k = i := by omega
    simp [h, e]
  · by_cases e : i = k
    · subst e; simp
    · have e2 : ¬ k = i := by omega
      simp [h, e, e2]

theorem bumpTo_succ (j : Nat) (l : List Tk) : bumpTo (j + 1) l = (bumpTo j l).modify j bumpT := by
  apply List.ext_getElem
  · simp [bumpTo_length]
  · intro i h1 h2
    rw [bumpTo_getElem, List.getElem_modify, bumpTo_getElem]
    by_cases e : j = i
    · subst e; simp
    · by_cases h : i < j
      · simp [h, e]; omega
      · rw [if_neg (by omega), if_neg e, if_neg h]

/-- How many wait. -/
def waitN : List Tk → Nat
  | [] => 0
  | t :: r => (if t.state = 1 then 1 else 0) + waitN r

theorem waitN_append (a b : List Tk) : waitN (a ++ b) = waitN a + waitN b := by
  induction a with
  | nil => simp [waitN]
  | cons t r ih => simp only [List.cons_append, waitN, ih]; omega

theorem waitN_bump (l : List Tk) : waitN (l.map bumpT) = waitN l := by
  induction l with
  | nil => rfl
  | cons t r ih =>
    simp only [List.map_cons, waitN, ih]
    unfold bumpT
    split <;> simp_all

theorem waitN_bumpTo (j : Nat) (l : List Tk) : waitN (bumpTo j l) = waitN l := by
  unfold bumpTo
  rw [waitN_append, waitN_bump, ← waitN_append, List.take_append_drop]

theorem waitN_modify (l : List Tk) (k : Nat) (hk : k < l.length) (h : l[k].state = 1) (s : Int) (hs : s ≠ 1) : waitN (l.modify k (setState s)) + 1 = waitN l := by
  induction l generalizing k with
  | nil => simp at hk
  | cons t r ih =>
    cases k with
    | zero =>
      simp at h
      simp [List.modify_zero_cons, waitN, setState, h, hs]; omega
    | succ k =>
      simp only [List.modify_succ_cons, waitN]
      have := ih k (by simpa using hk) (by simpa using h)
      omega

theorem waitN_enter (l : List Tk) (k : Nat) (hk : k < l.length) (h : l[k].state = 1) : waitN (enter k l) + 1 = waitN l := by
  unfold enter
  rw [waitN_bumpTo]
  exact waitN_modify l k hk h 2 (by omega)

theorem waitN_zero (l : List Tk) (h : waitN l = 0) : ∀ t ∈ l, t.state ≠ 1 := by
  induction l with
  | nil => simp
  | cons t r ih =>
    simp only [waitN] at h
    intro u hu
    cases hu with
    | head => intro e; simp [e] at h
    | tail _ hm => exact ih (by omega) u hm

/-- The gate lets in. -/
def lets : Nat → Int → Int → List Tk → List Tk
  | 0, _, _, l => l
  | f + 1, room, pass, l =>
    match turn pass l with
    | 0 => l
    | k + 1 => if held l + (l.getD k ⟨0, 0, 0, 0, 0⟩).weight ≤ room then lets f room pass (enter k l) else l

def letIn (room pass : Int) (l : List Tk) : List Tk := lets (waitN l) room pass l

theorem turn_zero (pass : Int) (l : List Tk) (h : waitN l = 0) : turn pass l = 0 := by
  rcases Nat.eq_zero_or_pos (turn pass l) with h0 | h0
  · exact h0
  · obtain ⟨k, hk, _, h2, _⟩ := turnBut_waits pass [] l (by unfold turn at h0; omega)
    exact absurd h2 (waitN_zero l h _ (List.getElem_mem hk))

theorem letIn_stop (room pass : Int) (l : List Tk) (h : turn pass l = 0) : letIn room pass l = l := by
  unfold letIn
  cases hw : waitN l with
  | zero => rfl
  | succ f => simp [lets, h]

theorem letIn_full (room pass : Int) (l : List Tk) (k : Nat) (hk : k < l.length) (h : turn pass l = k + 1) (hf : room < held l + l[k].weight) : letIn room pass l = l := by
  unfold letIn
  cases hw : waitN l with
  | zero => rfl
  | succ f =>
    have he : l.getD k ⟨0, 0, 0, 0, 0⟩ = l[k] := by simp [List.getD, hk]
    simp only [lets, h, he]
    rw [if_neg (by omega)]

theorem letIn_go (room pass : Int) (l : List Tk) (k : Nat) (hk : k < l.length) (h : turn pass l = k + 1) (hf : held l + l[k].weight ≤ room) : letIn room pass l = letIn room pass (enter k l) := by
  have hs : l[k].state = 1 := by
    obtain ⟨j, hj, h1, h2, _⟩ := turnBut_waits pass [] l (by unfold turn at h; omega)
    unfold turn at h
    have : j = k := by omega
    subst this; exact h2
  have hw := waitN_enter l k hk hs
  unfold letIn
  rw [← hw]
  have he : l.getD k ⟨0, 0, 0, 0, 0⟩ = l[k] := by simp [List.getD, hk]
  simp only [lets, h, he]
  rw [if_pos hf]

/-- What each ticket is at all times. -/
structure TkOk (pass : Int) (t : Tk) : Prop where
  w1 : 1 ≤ t.weight
  w2 : t.weight ≤ 100
  b1 : 0 ≤ t.band
  b2 : t.band ≤ 2
  s1 : 1 ≤ t.state
  s2 : t.state ≤ 6
  c1 : 0 ≤ t.count
  c2 : t.count ≤ 20
  c3 : t.state = 1 → t.count ≤ pass

def TksOk (pass : Int) (l : List Tk) : Prop := ∀ t ∈ l, TkOk pass t

structure GtOk (g : Gt) : Prop where
  r1 : 0 ≤ g.room
  r2 : g.room ≤ 1000
  p1 : 0 ≤ g.pass
  p2 : g.pass ≤ 20
  t1 : 0 ≤ g.time
  ok : TksOk g.pass g.all

theorem held_bounds (pass : Int) (l : List Tk) (h : TksOk pass l) : 0 ≤ held l ∧ held l ≤ 100 * l.length := by
  induction l with
  | nil => simp [held]
  | cons t r ih =>
    have h1 := h t (by simp)
    have h2 := ih (fun u hu => h u (by simp [hu]))
    have := h1.w1
    have := h1.w2
    simp only [held, List.length_cons]
    split <;> omega

theorem TksOk.take {pass : Int} {l : List Tk} (h : TksOk pass l) (k : Nat) : TksOk pass (l.take k) := fun t ht => h t (List.mem_of_mem_take ht)

theorem TksOk.modify {pass : Int} {l : List Tk} (h : TksOk pass l) (k : Nat) (f : Tk → Tk) (hf : ∀ hk : k < l.length, TkOk pass (f l[k])) : TksOk pass (l.modify k f) := by
  intro t ht
  obtain ⟨i, hi, rfl⟩ := List.getElem_of_mem ht
  rw [List.getElem_modify]
  split
  · rename_i e
    subst e
    exact hf _
  · exact h _ (List.getElem_mem _)

theorem TkOk.set {pass : Int} {t : Tk} (h : TkOk pass t) (s : Int) (h1 : 1 ≤ s) (h2 : s ≤ 6) (h3 : s ≠ 1) : TkOk pass (setState s t) :=
  ⟨h.w1, h.w2, h.b1, h.b2, h1, h2, h.c1, h.c2, fun e => absurd e h3⟩

/-- Whoever came earlier than the one whose turn it is, and waits, is below the bound. -/
theorem turn_below (pass : Int) (l : List Tk) (k : Nat) (h : turn pass l = k + 1) : ∀ j, j < k → ∀ hl : j < l.length, l[j].state = 1 → l[j].count < pass := by
  intro j hj hl hs
  unfold turn turnBut at h
  rcases first_cases (dueB pass []) l 0 with ⟨h0, hn⟩ | ⟨m, hm, h1, h2, h3⟩
  · have := hn j hl
    simp [dueB, hs] at this
    omega
  · rw [if_pos (by omega), h1] at h
    have := h3 j (by omega)
    simp [dueB, hs] at this
    omega

theorem TksOk.enter {pass : Int} {l : List Tk} (h : TksOk pass l) (hp : pass ≤ 20) (k : Nat) (ht : turn pass l = k + 1) : TksOk pass (enter k l) := by
  intro t hm
  obtain ⟨i, hi, rfl⟩ := List.getElem_of_mem hm
  have hil : i < l.length := by simpa [enter_length] using hi
  have hb := turn_below pass l k ht i
  have h0 := h _ (List.getElem_mem hil)
  rw [enter_getElem k l i hil]
  split
  · rename_i hlt
    unfold bumpT
    split
    · rename_i hs
      have hc := hb hlt hil hs
      exact ⟨h0.w1, h0.w2, h0.b1, h0.b2, h0.s1, h0.s2, by have := h0.c1; simp; omega, by simp; omega, fun _ => by simp; omega⟩
    · exact h0
  · split
    · exact h0.set 2 (by omega) (by omega) (by omega)
    · exact h0

theorem TksOk.lets {pass : Int} (hp : pass ≤ 20) (f : Nat) (room : Int) (l : List Tk) (h : TksOk pass l) : TksOk pass (lets f room pass l) := by
  induction f generalizing l with
  | zero => exact h
  | succ f ih =>
    unfold Tg.lets
    split
    · exact h
    · rename_i k hk
      split
      · exact ih _ (h.enter hp k hk)
      · exact h

theorem lets_length (f : Nat) (room pass : Int) (l : List Tk) : (lets f room pass l).length = l.length := by
  induction f generalizing l with
  | zero => rfl
  | succ f ih =>
    unfold Tg.lets
    split
    · rfl
    · split
      · rw [ih, enter_length]
      · rfl

theorem letIn_length (room pass : Int) (l : List Tk) : (letIn room pass l).length = l.length := lets_length _ _ _ _

theorem GtOk.letIn {g : Gt} (h : GtOk g) : GtOk { g with all := letIn g.room g.pass g.all } :=
  ⟨h.r1, h.r2, h.p1, h.p2, h.t1, TksOk.lets h.p2 _ _ _ h.ok⟩

/-- How a ticket stands, and the error. -/
def stateOf (l : List Tk) (n : Int) : Int × Int :=
  if 1 ≤ n ∧ n ≤ l.length then ((l.getD (n - 1).toNat ⟨0, 0, 0, 0, 0⟩).state, 0) else (0, 6)

/-- A ticket that stands so stands otherwise; then the gate lets in. -/
def change (g : Gt) (n s s' : Int) : Gt × Int :=
  if 1 ≤ n ∧ n ≤ g.all.length then
    if (g.all.getD (n - 1).toNat ⟨0, 0, 0, 0, 0⟩).state = s then ({ g with all := letIn g.room g.pass (g.all.modify (n - 1).toNat (setState s')) }, 0) else (g, 7)
  else (g, 6)

def lateT (now : Int) (t : Tk) : Tk := if t.state = 1 ∧ t.till = now then setState 4 t else t
def tick (g : Gt) : Gt := { g with time := g.time + 1, all := letIn g.room g.pass (g.all.map (lateT (g.time + 1))) }

def resize (g : Gt) (n : Int) : Gt × Int :=
  if 0 ≤ n ∧ n ≤ 1000 then ({ g with room := n, all := letIn n g.pass g.all }, 0) else (g, 1)

/-- The ticket that an Ask gives. -/
def ticket (g : Gt) (weight band wait : Int) : Tk :=
  ⟨weight, band, if 0 < wait then g.time + wait else -1, 0, if turn g.pass g.all = 0 ∧ held g.all + weight ≤ g.room then 2 else if wait = 0 then 3 else 1⟩

def askErr (weight band wait : Int) : Int :=
  if ¬ (1 ≤ weight ∧ weight ≤ 100) then 3 else if ¬ (0 ≤ band ∧ band ≤ 2) then 4 else if wait ≠ -1 ∧ ¬ (0 ≤ wait ∧ wait ≤ 1000000) then 5 else 0

def asked (g : Gt) (weight band wait : Int) : Gt := { g with all := letIn g.room g.pass (g.all ++ [ticket g weight band wait]) }

/-- Ask: the gate behind it; the number, how it stands, the error. -/
def ask (g : Gt) (weight band wait : Int) : Gt × Int × Int × Int :=
  if askErr weight band wait = 0 then
    (asked g weight band wait, (g.all.length : Int) + 1, ((asked g weight band wait).all.getD g.all.length ⟨0, 0, 0, 0, 0⟩).state, 0)
  else (g, 0, 0, askErr weight band wait)

def newErr (room pass : Int) : Int := if ¬ (0 ≤ room ∧ room ≤ 1000) then 1 else if ¬ (0 ≤ pass ∧ pass ≤ 20) then 2 else 0
def hallErr (readers pass : Int) : Int := if ¬ (1 ≤ readers ∧ readers ≤ 100) then 1 else newErr readers pass
def fresh (room pass : Int) : Gt := ⟨room, pass, 0, []⟩

theorem fresh_ok (room pass : Int) (h : newErr room pass = 0) : GtOk (fresh room pass) := by
  unfold newErr at h
  split at h
  · simp at h
  · split at h
    · simp at h
    · rename_i h1 h2
      simp only [Decidable.not_not] at h1 h2
      exact ⟨h1.1, h1.2, h2.1, h2.2, by simp [fresh], fun t ht => absurd ht (by simp [fresh])⟩

theorem letIn_ok {room pass : Int} {l : List Tk} (hp : pass ≤ 20) (h : TksOk pass l) : TksOk pass (letIn room pass l) := TksOk.lets hp _ _ _ h

theorem change_ok (g : Gt) (n s s' : Int) (h : GtOk g) (h1 : 2 ≤ s') (h2 : s' ≤ 6) : GtOk (change g n s s').1 := by
  unfold change
  split
  · split
    · exact ⟨h.r1, h.r2, h.p1, h.p2, h.t1, letIn_ok h.p2 (h.ok.modify _ _ fun hk => (h.ok _ (List.getElem_mem hk)).set s' (by omega) h2 (by omega))⟩
    · exact h
  · exact h

theorem change_len (g : Gt) (n s s' : Int) : (change g n s s').1.all.length = g.all.length := by
  unfold change
  split
  · split
    · simp [letIn_length]
    · rfl
  · rfl

theorem lateT_ok {pass now : Int} {t : Tk} (h : TkOk pass t) : TkOk pass (lateT now t) := by
  unfold lateT
  split
  · exact h.set 4 (by omega) (by omega) (by omega)
  · exact h

theorem tick_ok (g : Gt) (h : GtOk g) : GtOk (tick g) := by
  refine ⟨h.r1, h.r2, h.p1, h.p2, by have := h.t1; simp [tick]; omega, letIn_ok h.p2 ?_⟩
  intro t ht
  obtain ⟨u, hu, rfl⟩ := List.mem_map.1 ht
  exact lateT_ok (h.ok u hu)

theorem resize_ok (g : Gt) (n : Int) (h : GtOk g) : GtOk (resize g n).1 := by
  unfold resize
  split
  · rename_i hn
    exact ⟨hn.1, hn.2, h.p1, h.p2, h.t1, letIn_ok h.p2 h.ok⟩
  · exact h

theorem ticket_ok (g : Gt) (weight band wait : Int) (h : GtOk g) (he : askErr weight band wait = 0) : TkOk g.pass (ticket g weight band wait) := by
  unfold askErr at he
  split at he
  · simp at he
  · split at he
    · simp at he
    · rename_i h1 h2
      simp only [Decidable.not_not] at h1 h2
      have hp := h.p1
      refine ⟨h1.1, h1.2, h2.1, h2.2, ?_, ?_, by simp [ticket], by simp [ticket], fun _ => by simp [ticket]; exact hp⟩
      · simp only [ticket]; split
        · omega
        · split <;> omega
      · simp only [ticket]; split
        · omega
        · split <;> omega

theorem TksOk.snoc {pass : Int} {l : List Tk} {t : Tk} (h : TksOk pass l) (ht : TkOk pass t) : TksOk pass (l ++ [t]) := by
  intro u hu
  rcases List.mem_append.1 hu with h1 | h1
  · exact h u h1
  · simp at h1; subst h1; exact ht

theorem ask_ok (g : Gt) (weight band wait : Int) (h : GtOk g) : GtOk (ask g weight band wait).1 := by
  unfold ask
  split
  · rename_i he
    exact ⟨h.r1, h.r2, h.p1, h.p2, h.t1, letIn_ok h.p2 (h.ok.snoc (ticket_ok g _ _ _ h he))⟩
  · exact h

theorem ask_len (g : Gt) (weight band wait : Int) : (ask g weight band wait).1.all.length ≤ g.all.length + 1 := by
  unfold ask
  split
  · simp [asked, letIn_length]
  · simp

end Tg
