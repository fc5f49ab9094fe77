import Derived.Test.YtekjgjhhjlcoaaaKeepB
namespace Tg

theorem lookAt_at (s : List Sn) (l : List Tk) (i : Nat) : lookAt s l i i = snAt s i := by unfold lookAt; rw [if_neg (by omega)]
theorem lookAt_state (s : List Sn) (l : List Tk) (i k : Nat) (h : k < i) : (lookAt s l i k).state = (tkAt l k).state := by unfold lookAt; rw [if_pos h]

/-- What is known while those ahead of one that came in are counted. -/
def midAt (s : List Sn) (l : List Tk) (i j k : Nat) : Sn :=
  if k = i then { snAt s k with state := (tkAt l k).state } else if k < j ∧ (tkAt l k).state = 1 then { lookAt s l i k with passed := (lookAt s l i k).passed + 1 } else lookAt s l i k

theorem midAt_zero (s : List Sn) (l : List Tk) (i k : Nat) : midAt s l i 0 k = if k = i then { snAt s k with state := (tkAt l k).state } else lookAt s l i k := by
  unfold midAt; split
  · rfl
  · rw [if_neg (by omega)]
theorem midAt_end (s : List Sn) (l : List Tk) (i k : Nat) (h : came s l i = true) : midAt s l i i k = lookAt s l (i + 1) k := by
  rw [lookAt_succ]; unfold midAt; split
  · rfl
  · simp [h]
theorem look_same (s : List Sn) (l : List Tk) (i k : Nat) (h : came s l i = false) : midAt s l i 0 k = lookAt s l (i + 1) k := by
  rw [lookAt_succ, midAt_zero]; split
  · rfl
  · simp [h]

theorem cnt_le (f : Nat → Bool) (a b : Nat) : cnt f a b ≤ b := by
  induction b with
  | zero => simp [cnt]
  | succ b ih => simp only [cnt]; split <;> omega
theorem cnt_mono (f : Nat → Bool) (a b c : Nat) (h : b ≤ c) : cnt f a b ≤ cnt f a c := by
  induction c with
  | zero => have : b = 0 := by omega
            subst this; exact Nat.le_refl _
  | succ c ih =>
    by_cases e : b = c + 1
    · subst e; exact Nat.le_refl _
    · have := ih (by omega)
      simp only [cnt]; omega

theorem Turned.small {s : List Sn} {l : List Tk} {room pass : Int} (T : Turned s l room) (ok : TksOk pass l) (i k : Nat) (hk : k < i) (hi : i ≤ l.length) (hs : (tkAt l k).state = 1) : -(l.length : Int) ≤ (lookAt s l i k).passed ∧ (lookAt s l i k).passed ≤ 20 := by
  have h1 := T.ps k hs
  have hkl : k < l.length := by omega
  have h2 := ok _ (List.getElem_mem hkl)
  rw [tkAt_lt hkl] at h1 hs
  have h3 := cnt_le (came s l) k l.length
  have h4 := cnt_mono (came s l) k i l.length hi
  have c1 := h2.c1
  have c2 := h2.c2
  unfold lookAt
  rw [if_pos hk]
  simp only [tkAt_lt hkl, hs, if_true]
  omega

theorem modify_snAt (l : List Sn) (k : Nat) (hk : k < l.length) (u : Sn → Sn) (f f' : Nat → Sn) (h : ∀ i, i < l.length → snAt l i = f i) (h1 : u (f k) = f' k) (h2 : ∀ i, i ≠ k → f' i = f i) : ∀ i, i < l.length → snAt (l.modify k u) i = f' i := by
  intro i hi
  rw [snAt_modify l k u i hk]
  by_cases e : i = k
  · subst e; rw [if_pos rfl, h i hi]; exact h1
  · rw [if_neg e, h i hi]; exact (h2 i e).symm
end Tg
namespace Go.Proofs.Ytekjgjhhjlcoaaa
open Go.RowKit Go.Conc

section
variable {N : Nat} {w0 w : World} {tb gb : Nat} {g : Tg.Gt} {S : Nat → Prop} {lv : Value} {s : List Tg.Sn}

theorem KL.val {room : Int} (h : KL N w0 w tb gb g S room lv s) {ab n cap : Nat} (hv : lv = .slice (some ⟨ab, 0, none⟩) n cap) (k : Nat) (hk : k < s.length) (t : Tg.Sn) (ht : Tg.snAt s k = t) :
    w.cell? ⟨ab, k * 3, none⟩ = some (.int .i64 t.weight) ∧ w.cell? ⟨ab, k * 3 + 1, none⟩ = some (.int .i64 t.state) ∧ w.cell? ⟨ab, k * 3 + 2, none⟩ = some (.int .i64 t.passed) := by
  subst ht
  rw [Tg.snAt_lt hk]
  have h0 := h.at hv k 0 hk (by omega)
  have h1 := h.at hv k 1 hk (by omega)
  have h2 := h.at hv k 2 hk (by omega)
  simp [snVals] at h0 h1 h2
  exact ⟨h0, h1, h2⟩

/-- What looks keeps from one ticket to the next. -/
structure LK (N : Nat) (w0 w : World) (tb gb : Nat) (g : Tg.Gt) (S : Nat → Prop) (lv : Value) (s : List Tg.Sn) (wr : World) (sk : List Tg.Sn) (f : Nat → Tg.Sn) : Prop where
  kl : KL N w0 wr tb gb g S g.room lv sk
  len : sk.length = s.length
  at' : ∀ k, k < s.length → Tg.snAt sk k = f k
  size : w.heap.size ≤ wr.heap.size

variable {wr : World} {sk : List Tg.Sn} {f : Nat → Tg.Sn}

theorem LK.put (h : LK N w0 w tb gb g S lv s wr sk f) {ab n cap : Nat} (hv : lv = .slice (some ⟨ab, 0, none⟩) n cap) (k o : Nat) (u : Tg.Sn → Tg.Sn) (x : Value) (hk : k < s.length) (ho : o < 3)
    (hu : snVals (u (f k)) = (snVals (f k)).set o x) (f' : Nat → Tg.Sn) (h1 : u (f k) = f' k) (h2 : ∀ i, i ≠ k → f' i = f i) : LK N w0 w tb gb g S lv s (wr.setCell ⟨ab, k * 3 + o, none⟩ x) (sk.modify k u) f' := by
  have hks : k < sk.length := by rw [h.len]; exact hk
  refine ⟨h.kl.put hv k o u x hks ho ?_, by simp [h.len], ?_, by rw [show (wr.setCell ⟨ab, k * 3 + o, none⟩ x).heap.size = wr.heap.size by simp [World.setCell]]; exact h.size⟩
  · rw [← Tg.snAt_lt hks, h.at' k hk]; exact hu
  · have := Tg.modify_snAt sk k hks u f f' (fun i hi => h.at' i (by rw [← h.len]; exact hi)) h1 h2
    intro i hi
    exact this i (by rw [h.len]; exact hi)

theorem LK.same (h : LK N w0 w tb gb g S lv s wr sk f) (hN : N ≤ w.heap.size) {w1 : World} (hg : GA w1 gb g S) (ht : Tch S wr w1) : LK N w0 w tb gb g S lv s w1 sk f :=
  ⟨h.kl.same (by have := h.size; omega) hg ht, h.len, h.at', by have := h.size; have := ht.size; omega⟩
theorem LK.form (h : LK N w0 w tb gb g S lv s wr sk f) (f' : Nat → Tg.Sn) (hf : ∀ k, k < s.length → f' k = f k) : LK N w0 w tb gb g S lv s wr sk f' :=
  ⟨h.kl, h.len, fun k hk => by rw [h.at' k hk, hf k hk], h.size⟩
end

end Go.Proofs.Ytekjgjhhjlcoaaa
