import Derived.Test.YtekjgjhhjlcoaaaMod
namespace Tg

/-- How many wait that are none of some. -/
def restN (but : List Int) : Nat → List Tk → Nat
  | _, [] => 0
  | i, t :: r => (if t.state = 1 ∧ but.contains ((i : Int) + 1) = false then 1 else 0) + restN but (i + 1) r

/-- The queue, by asking anew whose turn it would be if those were not there. -/
def queueFrom (pass : Int) (l : List Tk) : Nat → List Int → List Int
  | 0, but => but
  | f + 1, but => match turnBut pass but l with
    | 0 => but
    | k + 1 => queueFrom pass l f (but ++ [(k : Int) + 1])

def queue (pass : Int) (l : List Tk) : List Int := queueFrom pass l (restN [] 0 l) []

theorem queueFrom_stop (pass : Int) (l : List Tk) (f : Nat) (but : List Int) (h : turnBut pass but l = 0) : queueFrom pass l f but = but := by
  cases f with
  | zero => rfl
  | succ f => simp [queueFrom, h]

theorem contains_snoc (but : List Int) (x y : Int) : (but ++ [x]).contains y = (but.contains y || y == x) := by
  rw [Bool.eq_iff_iff]
  simp [List.mem_append]

theorem restN_low (but : List Int) (x : Int) (i : Nat) (l : List Tk) (h : x ≤ i) : restN (but ++ [x]) i l = restN but i l := by
  induction l generalizing i with
  | nil => rfl
  | cons t r ih =>
    have e : ((i : Int) + 1 == x) = false := by simp; omega
    simp only [restN, contains_snoc, e, Bool.or_false]
    rw [ih (i + 1) (by omega)]

theorem restN_step (but : List Int) (l : List Tk) (i k : Nat) (hk : k < l.length) (hs : l[k].state = 1) (hb : but.contains (((i + k : Nat) : Int) + 1) = false) :
    restN (but ++ [((i + k : Nat) : Int) + 1]) i l + 1 = restN but i l := by
  induction l generalizing i k with
  | nil => simp at hk
  | cons t r ih =>
    cases k with
    | zero =>
      simp only [Nat.add_zero, List.getElem_cons_zero] at hs hb ⊢
      simp only [restN, contains_snoc, hs, hb]
      rw [restN_low _ _ _ _ (by omega)]
      simp; omega
    | succ k =>
      have e : ((i : Int) + 1 == ((i + (k + 1) : Nat) : Int) + 1) = false := by simp; omega
      have e2 : i + (k + 1) = (i + 1) + k := by omega
      simp only [restN, contains_snoc, e, Bool.or_false]
      rw [e2] at hb ⊢
      have := ih (i + 1) k (by simpa using hk) (by simpa using hs) hb
      omega

theorem restN_pos (but : List Int) (l : List Tk) (i k : Nat) (hk : k < l.length) (hs : l[k].state = 1) (hb : but.contains (((i + k : Nat) : Int) + 1) = false) : 0 < restN but i l := by
  have := restN_step but l i k hk hs hb
  omega

/-- One more of the queue. -/
theorem queueFrom_go (pass : Int) (l : List Tk) (but : List Int) (k : Nat) (h : turnBut pass but l = k + 1) :
    queueFrom pass l (restN but 0 l) but = queueFrom pass l (restN (but ++ [(k : Int) + 1]) 0 l) (but ++ [(k : Int) + 1]) ∧ restN (but ++ [(k : Int) + 1]) 0 l + 1 = restN but 0 l := by
  obtain ⟨j, hj, h1, h2, h3⟩ := turnBut_waits pass but l (by omega)
  obtain rfl : j = k := by omega
  have hs := restN_step but l 0 j hj h2 (by simpa using h3)
  simp only [Nat.zero_add] at hs
  refine ⟨?_, hs⟩
  rw [← hs]
  simp only [queueFrom, h]

theorem restN_le (but : List Int) (i : Nat) (l : List Tk) : restN but i l ≤ l.length := by
  induction l generalizing i with
  | nil => simp [restN]
  | cons t r ih =>
    have := ih (i + 1)
    simp only [restN, List.length_cons]
    split <;> omega

/-! ### The queue by its parts: those at the bound, then the bands. -/

/-- The places, counted from one, at which a test says yes. -/
def idx (p : Tk → Bool) : Nat → List Tk → List Int
  | _, [] => []
  | i, t :: r => if p t then ((i : Int) + 1) :: idx p (i + 1) r else idx p (i + 1) r

def dueT (pass : Int) (t : Tk) : Bool := t.state == 1 && decide (pass ≤ t.count)
def bandT (pass band : Int) (t : Tk) : Bool := t.state == 1 && t.band == band && !decide (pass ≤ t.count)

def queueL (pass : Int) (l : List Tk) : List Int := idx (dueT pass) 0 l ++ (idx (bandT pass 0) 0 l ++ (idx (bandT pass 1) 0 l ++ idx (bandT pass 2) 0 l))

theorem idx_cons (p : Tk → Bool) (i : Nat) (t : Tk) (r : List Tk) : idx p i (t :: r) = if p t then ((i : Int) + 1) :: idx p (i + 1) r else idx p (i + 1) r := rfl

theorem mem_idx (p : Tk → Bool) (i : Nat) (l : List Tk) (x : Int) : x ∈ idx p i l ↔ ∃ k, ∃ hk : k < l.length, x = ((i + k : Nat) : Int) + 1 ∧ p l[k] = true := by
  induction l generalizing i with
  | nil => simp [idx]
  | cons t r ih =>
    have tail : (∃ k, ∃ hk : k < r.length, x = ((i + 1 + k : Nat) : Int) + 1 ∧ p r[k] = true) ↔ ∃ k, ∃ hk : k + 1 < (t :: r).length, x = ((i + (k + 1) : Nat) : Int) + 1 ∧ p (t :: r)[k + 1] = true := by
      constructor
      · rintro ⟨k, hk, e, h⟩; exact ⟨k, by simpa using hk, by omega, by simpa using h⟩
      · rintro ⟨k, hk, e, h⟩; exact ⟨k, by simpa using hk, by omega, by simpa using h⟩
    have all : (∃ k, ∃ hk : k < (t :: r).length, x = ((i + k : Nat) : Int) + 1 ∧ p (t :: r)[k] = true) ↔ (x = (i : Int) + 1 ∧ p t = true) ∨ ∃ k, ∃ hk : k + 1 < (t :: r).length, x = ((i + (k + 1) : Nat) : Int) + 1 ∧ p (t :: r)[k + 1] = true := by
      constructor
      · rintro ⟨k, hk, e, h⟩
        cases k with
        | zero => exact Or.inl ⟨by simpa using e, by simpa using h⟩
        | succ k => exact Or.inr ⟨k, hk, e, h⟩
      · rintro (⟨e, h⟩ | ⟨k, hk, e, h⟩)
        · exact ⟨0, by simp, by simpa using e, by simpa using h⟩
        · exact ⟨k + 1, hk, e, h⟩
    rw [all, ← tail, ← ih (i + 1), idx_cons]
    split
    · rename_i h; simp [h]
    · rename_i h; simp [h]

theorem idx_low (p : Tk → Bool) (i : Nat) (l : List Tk) : ∀ x ∈ idx p i l, (i : Int) < x := by
  intro x hx
  obtain ⟨k, _, e, _⟩ := (mem_idx p i l x).1 hx
  omega

theorem idx_sorted (p : Tk → Bool) (i : Nat) (l : List Tk) : (idx p i l).Pairwise (· < ·) := by
  induction l generalizing i with
  | nil => simp [idx]
  | cons t r ih =>
    rw [idx_cons]
    split
    · refine List.pairwise_cons.2 ⟨fun x hx => ?_, ih (i + 1)⟩
      have := idx_low p (i + 1) r x hx
      omega
    · exact ih (i + 1)

/-- Of the places at which p says yes the first that is not among some. -/
theorem first_idx (p : Tk → Bool) (q : Nat → Tk → Bool) (but : List Int) (l : List Tk) (A : List Int) (x : Int) (B : List Int) (h : idx p 0 l = A ++ x :: B)
    (hq : ∀ i (hi : i < l.length), q i l[i] = (p l[i] && !but.contains ((i : Int) + 1))) (hb : ∀ y ∈ idx p 0 l, but.contains y = A.contains y) : (first q 0 l : Int) = x := by
  have srt := idx_sorted p 0 l
  rw [h] at srt
  obtain ⟨s1, s2, s3⟩ := List.pairwise_append.1 srt
  have hx : x ∈ idx p 0 l := by rw [h]; simp
  obtain ⟨k, hk, e, hp⟩ := (mem_idx p 0 l x).1 hx
  simp only [Nat.zero_add] at e
  have nA : A.contains x = false := by
    rw [Bool.eq_false_iff]
    intro c
    have := s3 x (by simpa using c) x (by simp)
    omega
  have := first_some q l 0 k hk (by
    simp only [Nat.zero_add]
    rw [hq k hk, hp, ← e, hb x hx, nA]; rfl) (fun j hj => by
    simp only [Nat.zero_add]
    rw [hq j (by omega)]
    cases hpj : p (l[j]'(by omega)) with
    | false => rfl
    | true =>
      have hm : ((j : Int) + 1) ∈ idx p 0 l := (mem_idx p 0 l _).2 ⟨j, by omega, by simp, hpj⟩
      have hm2 := hm
      rw [h] at hm2
      have hA : A.contains ((j : Int) + 1) = true := by
        rcases List.mem_append.1 hm2 with y | y
        · simpa using y
        · rcases List.mem_cons.1 y with z | z
          · omega
          · have := (List.pairwise_cons.1 s2).1 _ z
            omega
      rw [hb _ hm, hA]; rfl)
  omega

theorem first_idx_none (p : Tk → Bool) (q : Nat → Tk → Bool) (but : List Int) (l : List Tk)
    (hq : ∀ i (hi : i < l.length), q i l[i] = (p l[i] && !but.contains ((i : Int) + 1))) (hb : ∀ y ∈ idx p 0 l, but.contains y = true) : first q 0 l = 0 := by
  refine first_none q l 0 fun k hk => ?_
  simp only [Nat.zero_add]
  rw [hq k hk]
  cases hp : p l[k] with
  | false => rfl
  | true => rw [hb _ ((mem_idx p 0 l _).2 ⟨k, hk, by simp, hp⟩)]; rfl

theorem due_split (pass : Int) (but : List Int) (l : List Tk) : ∀ i (hi : i < l.length), dueB pass but i l[i] = (dueT pass l[i] && !but.contains ((i : Int) + 1)) := fun _ _ => rfl

/-- Once all at the bound are among some, the bands ask for the others alone. -/
theorem band_split (pass band : Int) (but : List Int) (l : List Tk) (hd : ∀ y ∈ idx (dueT pass) 0 l, but.contains y = true) :
    ∀ i (hi : i < l.length), bandB band but i l[i] = (bandT pass band l[i] && !but.contains ((i : Int) + 1)) := by
  intro i hi
  unfold bandB bandT
  cases hc : but.contains ((i : Int) + 1) with
  | true => simp
  | false =>
    have : dueT pass l[i] = false := by
      rw [Bool.eq_false_iff]
      intro h
      have := hd ((i : Int) + 1) ((mem_idx _ 0 l _).2 ⟨i, hi, by simp, h⟩)
      rw [hc] at this
      exact Bool.noConfusion this
    unfold dueT at this
    cases hs : (l[i].state == 1) with
    | false => simp
    | true =>
      rw [hs] at this
      simp only [Bool.true_and] at this
      simp only [this, Bool.true_and, Bool.not_false, Bool.and_true]

/-- No place stands in two parts. -/
theorem idx_disjoint {p q : Tk → Bool} (h : ∀ t, p t = true → q t = false) (l : List Tk) : ∀ y ∈ idx q 0 l, ¬ y ∈ idx p 0 l := by
  intro y hy hp
  obtain ⟨k, hk, e, h1⟩ := (mem_idx _ 0 l y).1 hp
  obtain ⟨k', hk', e', h2⟩ := (mem_idx _ 0 l y).1 hy
  obtain rfl : k = k' := by omega
  rw [h _ h1] at h2
  exact Bool.noConfusion h2

theorem due_band (pass band : Int) : ∀ t, dueT pass t = true → bandT pass band t = false := by
  intro t h
  unfold dueT at h
  unfold bandT
  simp only [Bool.and_eq_true] at h
  rw [h.2]; simp
theorem band_band (pass a b : Int) (hab : a ≠ b) : ∀ t, bandT pass a t = true → bandT pass b t = false := by
  intro t h
  unfold bandT at h ⊢
  simp only [Bool.and_eq_true, beq_iff_eq] at h
  rw [h.1.2]
  have : (a == b) = false := by simp [hab]
  rw [this]; simp

theorem contains_app_off {A C : List Int} {y : Int} (h : ¬ y ∈ A) : (A ++ C).contains y = C.contains y := by
  rw [Bool.eq_iff_iff]; simp [h]

/-- Whose turn it is, when a beginning of the queue is left out: the next. -/
theorem turn_next (pass : Int) (l : List Tk) (but : List Int) (x : Int) (r : List Int) (h : queueL pass l = but ++ x :: r) : (turnBut pass but l : Int) = x := by
  unfold queueL at h
  generalize hD : idx (dueT pass) 0 l = D at h
  generalize h0 : idx (bandT pass 0) 0 l = B0 at h
  generalize h1 : idx (bandT pass 1) 0 l = B1 at h
  generalize h2 : idx (bandT pass 2) 0 l = B2 at h
  have d0 : ∀ y ∈ B0, ¬ y ∈ D := by rw [← hD, ← h0]; exact idx_disjoint (due_band pass 0) l
  have d1 : ∀ y ∈ B1, ¬ y ∈ D := by rw [← hD, ← h1]; exact idx_disjoint (due_band pass 1) l
  have d2 : ∀ y ∈ B2, ¬ y ∈ D := by rw [← hD, ← h2]; exact idx_disjoint (due_band pass 2) l
  have e01 : ∀ y ∈ B1, ¬ y ∈ B0 := by rw [← h0, ← h1]; exact idx_disjoint (band_band pass 0 1 (by omega)) l
  have e02 : ∀ y ∈ B2, ¬ y ∈ B0 := by rw [← h0, ← h2]; exact idx_disjoint (band_band pass 0 2 (by omega)) l
  have e12 : ∀ y ∈ B2, ¬ y ∈ B1 := by rw [← h1, ← h2]; exact idx_disjoint (band_band pass 1 2 (by omega)) l
  have cut : ∀ {P Q : List Int}, P ++ Q = but ++ x :: r → (∃ r', P = but ++ x :: r') ∨ ∃ c, but = P ++ c ∧ Q = c ++ x :: r := by
    intro P Q e
    rcases List.append_eq_append_iff.1 e with ⟨a, e1, e2⟩ | ⟨a, e1, e2⟩
    · exact Or.inr ⟨a, e1, e2⟩
    · cases a with
      | nil => simp at e1 e2; exact Or.inr ⟨[], by simp [e1], by simp [e2]⟩
      | cons y a => simp at e2; obtain ⟨rfl, _⟩ := e2; exact Or.inl ⟨a, e1⟩
  have fz : ∀ {n : Nat} {y : Int}, (n : Int) = y → y ∈ D ∨ y ∈ B0 ∨ y ∈ B1 ∨ y ∈ B2 → n ≠ 0 := by
    intro n y e hy
    have : (0 : Int) < y := by
      rcases hy with z | z | z | z
      · exact idx_low (dueT pass) 0 l y (by rw [hD]; exact z)
      · exact idx_low (bandT pass 0) 0 l y (by rw [h0]; exact z)
      · exact idx_low (bandT pass 1) 0 l y (by rw [h1]; exact z)
      · exact idx_low (bandT pass 2) 0 l y (by rw [h2]; exact z)
    omega
  unfold turnBut
  rcases cut h with ⟨r', e⟩ | ⟨c, rfl, eC⟩
  · have f := first_idx (dueT pass) (dueB pass but) but l but x r' (by rw [hD, e]) (due_split pass but l) (fun y _ => rfl)
    rw [if_pos (fz f (Or.inl (by rw [e]; simp))), f]
  · have hall : ∀ y ∈ idx (dueT pass) 0 l, (D ++ c).contains y = true := by intro y hy; rw [hD] at hy; simp [hy]
    have fd := first_idx_none (dueT pass) (dueB pass (D ++ c)) (D ++ c) l (due_split pass _ l) hall
    rw [if_neg (by omega)]
    have cut2 : ∀ {P Q : List Int}, P ++ Q = c ++ x :: r → (∃ r', P = c ++ x :: r') ∨ ∃ c', c = P ++ c' ∧ Q = c' ++ x :: r := by
      intro P Q e
      rcases List.append_eq_append_iff.1 e with ⟨a, e1, e2⟩ | ⟨a, e1, e2⟩
      · exact Or.inr ⟨a, e1, e2⟩
      · cases a with
        | nil => simp at e1 e2; exact Or.inr ⟨[], by simp [e1], by simp [e2]⟩
        | cons y a => simp at e2; obtain ⟨rfl, _⟩ := e2; exact Or.inl ⟨a, e1⟩
    rcases cut2 eC with ⟨r', e⟩ | ⟨c0, rfl, eD⟩
    · have f := first_idx (bandT pass 0) (bandB 0 (D ++ c)) (D ++ c) l c x r' (by rw [h0, e]) (band_split pass 0 _ l hall) (fun y hy => contains_app_off (d0 y (by rw [← h0]; exact hy)))
      rw [if_pos (fz f (Or.inr (Or.inl (by rw [e]; simp)))), f]
    · have hb0 : ∀ y ∈ idx (bandT pass 0) 0 l, (D ++ (B0 ++ c0)).contains y = true := by intro y hy; rw [h0] at hy; simp [hy]
      have f0 := first_idx_none (bandT pass 0) (bandB 0 (D ++ (B0 ++ c0))) _ l (band_split pass 0 _ l hall) hb0
      rw [if_neg (by omega)]
      have cut3 : ∀ {P Q : List Int}, P ++ Q = c0 ++ x :: r → (∃ r', P = c0 ++ x :: r') ∨ ∃ c', c0 = P ++ c' ∧ Q = c' ++ x :: r := by
        intro P Q e
        rcases List.append_eq_append_iff.1 e with ⟨a, e1, e2⟩ | ⟨a, e1, e2⟩
        · exact Or.inr ⟨a, e1, e2⟩
        · cases a with
          | nil => simp at e1 e2; exact Or.inr ⟨[], by simp [e1], by simp [e2]⟩
          | cons y a => simp at e2; obtain ⟨rfl, _⟩ := e2; exact Or.inl ⟨a, e1⟩
      rcases cut3 eD with ⟨r', e⟩ | ⟨c1, rfl, eE⟩
      · have f := first_idx (bandT pass 1) (bandB 1 (D ++ (B0 ++ c0))) _ l c0 x r' (by rw [h1, e]) (band_split pass 1 _ l hall) (fun y hy => by
          rw [h1] at hy
          rw [contains_app_off (d1 y hy), contains_app_off (e01 y hy)])
        rw [if_pos (fz f (Or.inr (Or.inr (Or.inl (by rw [e]; simp))))), f]
      · have hb1 : ∀ y ∈ idx (bandT pass 1) 0 l, (D ++ (B0 ++ (B1 ++ c1))).contains y = true := by intro y hy; rw [h1] at hy; simp [hy]
        have f1 := first_idx_none (bandT pass 1) (bandB 1 (D ++ (B0 ++ (B1 ++ c1)))) _ l (band_split pass 1 _ l hall) hb1
        rw [if_neg (by omega)]
        exact first_idx (bandT pass 2) (bandB 2 (D ++ (B0 ++ (B1 ++ c1)))) _ l c1 x r (by rw [h2, eE]) (band_split pass 2 _ l hall) (fun y hy => by
          rw [h2] at hy
          rw [contains_app_off (d2 y hy), contains_app_off (e02 y hy), contains_app_off (e12 y hy)])

theorem turn_done (pass : Int) (l : List Tk) : turnBut pass (queueL pass l) l = 0 := by
  have hall : ∀ y ∈ idx (dueT pass) 0 l, (queueL pass l).contains y = true := by intro y hy; unfold queueL; simp [hy]
  unfold turnBut
  rw [if_neg (by rw [first_idx_none (dueT pass) (dueB pass (queueL pass l)) _ l (due_split pass _ l) hall]; simp)]
  rw [if_neg (by rw [first_idx_none (bandT pass 0) (bandB 0 (queueL pass l)) _ l (band_split pass 0 _ l hall) (by intro y hy; unfold queueL; simp [hy])]; simp)]
  rw [if_neg (by rw [first_idx_none (bandT pass 1) (bandB 1 (queueL pass l)) _ l (band_split pass 1 _ l hall) (by intro y hy; unfold queueL; simp [hy])]; simp)]
  exact first_idx_none (bandT pass 2) (bandB 2 (queueL pass l)) _ l (band_split pass 2 _ l hall) (by intro y hy; unfold queueL; simp [hy])

theorem queueFrom_eq (pass : Int) (l : List Tk) (r but : List Int) (h : queueL pass l = but ++ r) : queueFrom pass l (restN but 0 l) but = queueL pass l := by
  induction r generalizing but with
  | nil =>
    simp at h
    rw [queueFrom_stop _ _ _ _ (by rw [← h]; exact turn_done pass l), h]
  | cons x r ih =>
    have ht := turn_next pass l but x r h
    have hx : 0 < x := by
      have : x ∈ queueL pass l := by rw [h]; simp
      unfold queueL at this
      simp only [List.mem_append] at this
      rcases this with z | z | z | z
      · exact idx_low _ 0 l x z
      · exact idx_low _ 0 l x z
      · exact idx_low _ 0 l x z
      · exact idx_low _ 0 l x z
    obtain ⟨k, hk⟩ : ∃ k, turnBut pass but l = k + 1 := ⟨turnBut pass but l - 1, by omega⟩
    have e : (k : Int) + 1 = x := by omega
    rw [(queueFrom_go pass l but k hk).1, e]
    exact ih (but ++ [x]) (by simp [h])

theorem queue_eq (pass : Int) (l : List Tk) : queue pass l = queueL pass l := queueFrom_eq pass l _ [] rfl

end Tg
