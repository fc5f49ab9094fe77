import Derived.Test.YtdoghjballemnaaPrgD
namespace Go.Proofs.Ytdoghjballemnaa
open Go.RowKit Go.Conc

/-- The best of the first j: the earliest of the lowest band. -/
def Best (ns : List Nd) (j : Nat) (m : Nat) : Prop := m < j ∧ ∃ hm : m < ns.length, (∀ i, i < j → ∀ hi : i < ns.length, ns[m].band ≤ ns[i].band) ∧ ∀ i, i < m → ∀ hi : i < ns.length, ns[m].band < ns[i].band
def Below' (pass : Int) (ns : List Nd) (j : Nat) : Prop := ∀ i, i < j → ∀ hi : i < ns.length, ns[i].count < pass

/-- Whose turn it is, as the program finds it. -/
def IsTurn (pass : Int) (ns : List Nd) : Option Nat → Prop
  | none => ns = []
  | some m => ∃ hm : m < ns.length, (pass ≤ ns[m].count ∧ Below' pass ns m) ∨ (Below' pass ns ns.length ∧ Best ns ns.length m)

theorem pn_some (n : Nd) : pn (some n) = .pointer (some ⟨n.blk, 0, none⟩) := rfl
theorem pn_none : pn none = .pointer none := rfl
theorem pn_at (ns : List Nd) (j : Nat) (hj : j < ns.length) : pn ns[j]? = .pointer (some ⟨ns[j].blk, 0, none⟩) := by rw [List.getElem?_eq_getElem hj]; rfl
theorem pn_past (ns : List Nd) (j : Nat) (hj : ¬ j < ns.length) : pn ns[j]? = .pointer none := by rw [List.getElem?_eq_none (by omega)]; rfl
theorem pn_head (ns : List Nd) : pn ns.head? = pn ns[0]? := by rw [List.head?_eq_getElem?]

theorem Best.first (ns : List Nd) (hl : 0 < ns.length) : Best ns 1 0 := ⟨by omega, hl, fun i hi _ => (by have e : i = 0 := (by omega); subst e; exact Int.le_refl _), fun i hi => absurd hi (by omega)⟩
theorem Best.better {ns : List Nd} {j m : Nat} (h : Best ns j m) (hj : j < ns.length) (hb : ns[j].band < (ns[m]'h.2.1).band) : Best ns (j + 1) j := by
  obtain ⟨h1, h2, h3, h4⟩ := h
  refine ⟨by omega, hj, fun i hi hil => ?_, fun i hi hil => ?_⟩
  · by_cases e : i = j
    · subst e; exact Int.le_refl _
    · have := h3 i (by omega) hil; omega
  · have := h3 i hi hil; omega
theorem Best.worse {ns : List Nd} {j m : Nat} (h : Best ns j m) (hj : j < ns.length) (hb : ¬ ns[j].band < (ns[m]'h.2.1).band) : Best ns (j + 1) m := by
  obtain ⟨h1, h2, h3, h4⟩ := h
  refine ⟨by omega, h2, fun i hi hil => ?_, h4⟩
  by_cases e : i = j
  · subst e; omega
  · exact h3 i (by omega) hil
theorem Below'.succ {pass : Int} {ns : List Nd} {j : Nat} (h : Below' pass ns j) (hj : j < ns.length) (hc : ns[j].count < pass) : Below' pass ns (j + 1) := by
  intro i hi hil
  by_cases e : i = j
  · subst e; exact hc
  · exact h i (by omega) hil

/-- The best so far, as a position. -/
def BestTo (ns : List Nd) (j : Nat) : Option Nat → Prop
  | none => j = 0
  | some m => Best ns j m
def bestPtr (ns : List Nd) (o : Option Nat) : Value := pn (o.bind fun m => ns[m]?)

section
variable {w : World} {gb : Nat} {q : Gn} {tv : Value} {rs : List Rc} {ns : List Nd}

set_option maxHeartbeats 1000000 in
theorem turn_any (h : PH w gb q tv rs ns) :
    Calls Try.prog 62 #[.pointer (some ⟨gb, 0, none⟩)] w fun e w' => ∃ m, IsTurn q.pass ns m ∧ e = .returned (bestPtr ns m) ∧ ∃ n, w' = w.drewN n := by
  have c3 := h.gcell 3
  simp at c3
  go_enter Try.func62, Try.ntmps62
  go_wp2_with (go_at_call 48; refine (first_any h).mono ?_; rintro e w' ⟨rfl, rfl⟩)
  go_loopg [3, 4] ns.length (fun r b n wr => ∃ j, j + r = ns.length ∧ n = pn ns[j]? ∧ Below' q.pass ns j ∧ (∃ o, BestTo ns j o ∧ b = bestPtr ns o) ∧ ∃ n, wr = w'.drewN n)
  case atStart => exact ⟨0, by omega, pn_head ns, fun i hi => absurd hi (by omega), ⟨none, rfl, rfl⟩, 0, rfl⟩
  case round =>
    obtain ⟨j, hj, rfl, HB, ⟨o, HO, rfl⟩, k, rfl⟩ := hrel
    by_cases hlt : j < ns.length
    · rw [pn_at ns j hlt]
      have n2 := h.ncell j hlt 2
      have n1 := h.ncell j hlt 1
      simp at n2 n1
      by_cases hc : q.pass ≤ ns[j].count
      · have hc' : decide (q.pass ≤ ns[j].count) = true := by simpa using hc
        obtain ⟨p, hp⟩ : ∃ p, bestPtr ns o = .pointer p := ⟨_, rfl⟩
        rw [hp]
        clear hp
        go_wp2
        go_quiet (fail)
        go_wp2
        go_ret
        exact ⟨some j, ⟨hlt, Or.inl ⟨hc, HB⟩⟩, by simp [bestPtr, pn_at ns j hlt], _, by rw [World.drewN_drewN]⟩
      · have hc' : decide (q.pass ≤ ns[j].count) = false := by simpa using hc
        cases o with
        | none =>
          obtain rfl : j = 0 := HO
          rw [show bestPtr ns none = .pointer none from rfl]
          go_wp2
          go_quiet (fail)
          go_wp2
          go_quiet (fail)
          go_wp2_with (go_at_call 75; refine (next_any (h.drewN _) 0 hlt).mono ?_; rintro e w' ⟨rfl, rfl⟩)
          go_roundg (gk - 1)
          case rel => exact ⟨1, by omega, rfl, HB.succ hlt (by omega), ⟨some 0, Best.first ns hlt, by simp [bestPtr, pn_at ns 0 hlt]⟩, _, rfl⟩
          case measure => omega
        | some m =>
          have HO' : Best ns j m := HO
          have hm := HO'.2.1
          rw [show bestPtr ns (some m) = .pointer (some ⟨ns[m].blk, 0, none⟩) from pn_at ns m hm]
          have m1 := h.ncell m hm 1
          simp at m1
          by_cases hbd : ns[j].band < ns[m].band
          · have hbd' : decide (ns[j].band < ns[m].band) = true := by simpa using hbd
            go_wp2
            go_quiet (fail)
            go_wp2
            go_quiet (fail)
            go_wp2_with (go_at_call 75; refine (next_any (h.drewN _) j hlt).mono ?_; rintro e w' ⟨rfl, rfl⟩)
            go_roundg (gk - 1)
            case rel => exact ⟨j + 1, by omega, rfl, HB.succ hlt (by omega), ⟨some j, HO'.better hlt hbd, by simp [bestPtr, pn_at ns j hlt]⟩, _, rfl⟩
            case measure => omega
          · have hbd' : decide (ns[j].band < ns[m].band) = false := by simpa using hbd
            go_wp2
            go_quiet (fail)
            go_wp2
            go_quiet (fail)
            go_wp2_with (go_at_call 75; refine (next_any (h.drewN _) j hlt).mono ?_; rintro e w' ⟨rfl, rfl⟩)
            go_roundg (gk - 1)
            case rel => exact ⟨j + 1, by omega, rfl, HB.succ hlt (by omega), ⟨some m, HO'.worse hlt (by omega), by simp [bestPtr, pn_at ns m hm]⟩, _, rfl⟩
            case measure => omega
    · rw [pn_past ns j hlt]
      obtain ⟨p, hp⟩ : ∃ p, bestPtr ns o = .pointer p := ⟨_, rfl⟩
      have HP := hid hp
      rw [hp]
      clear hp
      go_wp2
      go_ret
      have e : j = ns.length := by omega
      refine ⟨o, ?_, by rw [HP.out]; rfl, _, rfl⟩
      cases o with
      | none => exact List.eq_nil_of_length_eq_zero (by rw [← e]; exact HO)
      | some m => exact ⟨HO.2.1, Or.inr ⟨by rw [← e]; exact HB, by rw [← e]; exact HO⟩⟩
end

end Go.Proofs.Ytdoghjballemnaa

