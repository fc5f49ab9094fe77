import Derived.Test.YtekjgjhhjlcoaaaPrgD
namespace Go.Proofs.Ytekjgjhhjlcoaaa
open Go.RowKit Go.Conc

/-- The lower, the earlier it is its turn. -/
def rk (pass : Int) (n : Nd) : Int := if pass ≤ n.count then 0 else 1 + n.band

/-- The best of the first j: the earliest of the lowest rank. -/
def Best (pass : Int) (ns : List Nd) (j : Nat) (m : Nat) : Prop := ∃ hm : m < ns.length, (∀ i, i < j → ∀ hi : i < ns.length, rk pass ns[m] ≤ rk pass ns[i]) ∧ ∀ i, i < m → ∀ hi : i < ns.length, rk pass ns[m] < rk pass ns[i]

/-- Whose turn it is, as the program finds it. -/
def IsTurn (pass : Int) (ns : List Nd) : Option Nat → Prop
  | none => ns = []
  | some m => Best pass ns ns.length m

theorem IsTurn.lt {pass : Int} {ns : List Nd} {m : Nat} (h : IsTurn pass ns (some m)) : m < ns.length := h.1

theorem pn_some (n : Nd) : pn (some n) = .pointer (some ⟨n.blk, 0, none⟩) := rfl
theorem pn_none : pn none = .pointer none := rfl
theorem pn_at (ns : List Nd) (j : Nat) (hj : j < ns.length) : pn ns[j]? = .pointer (some ⟨ns[j].blk, 0, none⟩) := by rw [List.getElem?_eq_getElem hj]; rfl
theorem pn_past (ns : List Nd) (j : Nat) (hj : ¬ j < ns.length) : pn ns[j]? = .pointer none := by rw [List.getElem?_eq_none (by omega)]; rfl
theorem pn_head (ns : List Nd) : pn ns.head? = pn ns[0]? := by rw [List.head?_eq_getElem?]

theorem Best.first (pass : Int) (ns : List Nd) (hl : 0 < ns.length) : Best pass ns 0 0 := ⟨hl, fun i hi => absurd hi (by omega), fun i hi => absurd hi (by omega)⟩
theorem Best.better {pass : Int} {ns : List Nd} {j m : Nat} (h : Best pass ns j m) (hj : j < ns.length) (hb : rk pass ns[j] < rk pass (ns[m]'h.1)) : Best pass ns (j + 1) j := by
  obtain ⟨h2, h3, h4⟩ := h
  refine ⟨hj, fun i hi hil => ?_, fun i hi hil => ?_⟩
  · by_cases e : i = j
    · subst e; exact Int.le_refl _
    · have := h3 i (by omega) hil; omega
  · have := h3 i hi hil; omega
theorem Best.worse {pass : Int} {ns : List Nd} {j m : Nat} (h : Best pass ns j m) (hj : j < ns.length) (hb : ¬ rk pass ns[j] < rk pass (ns[m]'h.1)) : Best pass ns (j + 1) m := by
  obtain ⟨h2, h3, h4⟩ := h
  refine ⟨h2, fun i hi hil => ?_, h4⟩
  by_cases e : i = j
  · subst e; omega
  · exact h3 i (by omega) hil

/-- A callee that only reads, in a world that has drawn before. -/
theorem quietAt {P : Program} {f : FuncId} {args : Array Value} {w : World} {k n : Nat} {v : Value}
    (h : Calls P f args (w.drewN (k + n)) fun e w' => e = .returned v ∧ w' = w.drewN (k + n)) : Calls P f args (w.drewN (k + n)) fun e w'' => e = .returned v ∧ ∃ m, w'' = w.drewN (k + m) :=
  h.mono fun _ _ ⟨he, hm⟩ => ⟨he, n, hm⟩

def bestPtr (ns : List Nd) (o : Option Nat) : Value := pn (o.bind fun m => ns[m]?)

section
variable {w : World} {gb : Nat} {q : Gn} {tv : Value} {rs : List Rc} {ns : List Nd}

set_option maxHeartbeats 400000 in
theorem rank_any (h : PH w gb q tv rs ns) (pass : Int) (j : Nat) (hj : j < ns.length) (hb : 0 ≤ ns[j].band ∧ ns[j].band ≤ 2) :
    Calls Try.prog 77 #[.pointer (some ⟨ns[j].blk, 0, none⟩), .int .i64 pass] w fun e w' => e = .returned (.int .i64 (rk pass ns[j])) ∧ w' = w := by
  have c3 := h.ncell j hj 3
  have c2 := h.ncell j hj 2
  simp at c3 c2
  obtain ⟨b1, b2⟩ := hb
  by_cases hc : pass ≤ ns[j].count
  · have e : rk pass ns[j] = 0 := by unfold rk; rw [if_pos hc]
    rw [e]
    have hc' : decide (pass ≤ ns[j].count) = true := by simpa using hc
    clear e
    go_enter Try.func77, Try.ntmps77
    go_wp2
    go_ret
    exact ⟨rfl, rfl⟩
  · have e : rk pass ns[j] = 1 + ns[j].band := by unfold rk; rw [if_neg hc]
    rw [e]
    have hc' : decide (pass ≤ ns[j].count) = false := by simpa using hc
    have e1 := wrapId (1 + ns[j].band) (by omega) (by omega)
    clear e
    go_enter Try.func77, Try.ntmps77
    go_wp2
    go_ret
    exact ⟨rfl, rfl⟩

/-- The bands of those that wait. -/
def BandsOk (ns : List Nd) : Prop := ∀ j (hj : j < ns.length), 0 ≤ ns[j].band ∧ ns[j].band ≤ 2

set_option maxHeartbeats 1000000 in
theorem turn_any (h : PH w gb q tv rs ns) (hb : BandsOk ns) :
    Calls Try.prog 79 #[.pointer (some ⟨gb, 0, none⟩)] w fun e w' => ∃ m, IsTurn q.pass ns m ∧ e = .returned (bestPtr ns m) ∧ ∃ n, w' = w.drewN n := by
  have c3 := h.gcell 3
  simp at c3
  by_cases hz : ns = []
  · subst hz
    have FI := first_any h
    rw [show pn ([] : List Nd).head? = .pointer none from rfl] at FI
    go_enter Try.func79, Try.ntmps79
    go_wp2_with (go_at_call 39; refine FI.mono ?_; rintro e w' ⟨rfl, rfl⟩)
    go_loopg [3, 4] 0 (fun r b n wr => b = .pointer none ∧ n = .pointer none ∧ wr = w')
    case atStart => exact ⟨rfl, rfl, rfl⟩
    case round =>
      obtain ⟨rfl, rfl, rfl⟩ := hrel
      go_wp2
      go_ret
      exact ⟨none, rfl, rfl, 0, rfl⟩
  · have hl : 0 < ns.length := List.length_pos_iff.2 hz
    have FI := first_any h
    rw [pn_head, pn_at ns 0 hl] at FI
    go_enter Try.func79, Try.ntmps79
    go_wp2_with (go_at_call 39; refine FI.mono ?_; rintro e w' ⟨rfl, rfl⟩)
    go_loopg [3, 4] ns.length (fun r b n wr => ∃ j, j + r = ns.length ∧ n = pn ns[j]? ∧ (∃ m, Best q.pass ns j m ∧ b = pn ns[m]?) ∧ ∃ n, wr = w'.drewN n)
    case atStart => exact ⟨0, by omega, (pn_at ns 0 hl).symm, ⟨0, Best.first _ ns hl, (pn_at ns 0 hl).symm⟩, 0, rfl⟩
    case round =>
      obtain ⟨j, hj, rfl, ⟨m, HO, rfl⟩, k, rfl⟩ := hrel
      have hm := HO.1
      have PM := pn_at ns m hm
      obtain ⟨bm, ebm⟩ : ∃ b, ns[m].blk = b := ⟨_, rfl⟩
      rw [ebm] at PM
      rw [PM]
      by_cases hlt : j < ns.length
      · have PJ := pn_at ns j hlt
        obtain ⟨bj, ebj⟩ : ∃ b, ns[j].blk = b := ⟨_, rfl⟩
        rw [ebj] at PJ
        rw [PJ]
        have R1 := fun n => rank_any (h.drewN n) q.pass j hlt (hb j hlt)
        have R2 := fun n => rank_any (h.drewN n) q.pass m hm (hb m hm)
        have N0 := fun n => next_any (h.drewN n) j hlt
        have better := HO.better hlt
        have worse := HO.worse hlt
        obtain ⟨rj, erj⟩ : ∃ b, rk q.pass ns[j] = b := ⟨_, rfl⟩
        obtain ⟨rm, erm⟩ : ∃ b, rk q.pass ns[m] = b := ⟨_, rfl⟩
        rw [erj, erm] at better worse
        simp only [ebj, erj] at R1
        simp only [ebm, erm] at R2
        simp only [ebj] at N0
        have PJ := hid PJ
        have PM := hid PM
        clear ebj ebm erj erm
        by_cases hbd : rj < rm
        · have hbd' : decide (rj < rm) = true := by simpa using hbd
          go_wp2
          go_quiet (first | (go_at_call_of 77 (Value.pointer (some (⟨bj, 0, none⟩ : Addr))); exact quietAt (R1 _)) | (go_at_call_of 77 (Value.pointer (some (⟨bm, 0, none⟩ : Addr))); exact quietAt (R2 _)))
          have N1 := N0 (k + nq)
          go_wp2_with fail
          refine N1.mono ?_
          rintro e w' ⟨rfl, rfl⟩
          clear N1
          go_wp2
          go_roundg (gk - 1)
          case rel => exact ⟨j + 1, by omega, rfl, ⟨j, better hbd, PJ.out.symm⟩, _, rfl⟩
          case measure => omega
        · have hbd' : decide (rj < rm) = false := by simpa using hbd
          go_wp2
          go_quiet (first | (go_at_call_of 77 (Value.pointer (some (⟨bj, 0, none⟩ : Addr))); exact quietAt (R1 _)) | (go_at_call_of 77 (Value.pointer (some (⟨bm, 0, none⟩ : Addr))); exact quietAt (R2 _)))
          have N1 := N0 (k + nq)
          go_wp2_with fail
          refine N1.mono ?_
          rintro e w' ⟨rfl, rfl⟩
          clear N1
          go_wp2
          go_roundg (gk - 1)
          case rel => exact ⟨j + 1, by omega, rfl, ⟨m, worse hbd, PM.out.symm⟩, _, rfl⟩
          case measure => omega
      · rw [pn_past ns j hlt]
        go_wp2
        go_ret
        have e : j = ns.length := by omega
        exact ⟨some m, by rw [e] at HO; exact HO, by simp [bestPtr, PM], _, rfl⟩
end

end Go.Proofs.Ytekjgjhhjlcoaaa
