import Derived.Test.YtekjgjhhjlcoaaaPrgK
import Derived.Conc.MuLib
import Derived.Conc.MuLone
import Derived.KernelRfl
namespace Go.Proofs
abbrev Try.muLink : Go.Conc.Locks.MuLink := { lock := 35, unlock := 36, ilock := 74, iunlock := 75, lockSlow := 95, unlockSlow := 98, disable := 91, enable := 93, acquire := 94, relMerge := 96, cas32 := 92, add32 := 97, tMutex := 62, tIMutex := 60, tPMutex := 107, tPIMutex := 130, tPI32 := 132, tUP := 134, tNoCopy := 57, tU32 := 58 }
theorem Try.muLib : Go.Conc.Locks.MuLib Try.prog Try.muLink :=
  ⟨Try.func35, Try.func36, Try.func74, Try.func75, Try.func91, Try.func93, Try.func94, Try.func96, Try.func92, Try.func97,
    Try.underlying60, Try.runUnderlying60, Try.sizeOf60, Try.isAgg60, Try.zeroValue60,
    Try.underlying62, Try.runUnderlying62, Try.sizeOf62, Try.isAgg62, Try.zeroValue62,
    Try.underlying107, Try.runUnderlying107, Try.sizeOf107, Try.isAgg107, Try.zeroValue107,
    Try.underlying130, Try.runUnderlying130, Try.sizeOf130, Try.isAgg130, Try.zeroValue130,
    Try.underlying132, Try.runUnderlying132, Try.sizeOf132, Try.isAgg132, Try.zeroValue132,
    Try.underlying134, Try.runUnderlying134, Try.sizeOf134, Try.isAgg134, Try.zeroValue134,
    Try.underlying57, Try.runUnderlying57, Try.sizeOf57, Try.isAgg57, Try.zeroValue57,
    Try.underlying21, Try.runUnderlying21, Try.sizeOf21, Try.isAgg21, Try.zeroValue21, (by kernel_rfl)⟩
end Go.Proofs
namespace Go.Proofs.Ytekjgjhhjlcoaaa
open Go.RowKit Go.Conc Go.MuLone

section
variable {rd : Option Int} {w : World} {gb : Nat} {g : Tg.Gt} {tv : Value} {rs : List Rc} {ns : List Nd} {ixs : List Nat}

/-- A gate of the program between two calls: in memory, unlocked, and what it says of its tickets. -/
structure PG (rd : Option Int) (w : World) (gb : Nat) (g : Tg.Gt) (tv : Value) (rs : List Rc) (ns : List Nd) : Prop where
  ph : PH w gb (gnOf rd 0 g) tv rs ns
  rel : ∃ ixs, Rel g.all rs ns ixs

theorem PH.lock (h : PH w gb (gnOf rd 0 g) tv rs ns) : PH (w.setCell ⟨gb, 0, none⟩ (.int .i32 1)) gb (gnOf rd 1 g) tv rs ns := h.setMu 1
theorem PH.unlock (h : PH w gb (gnOf rd 1 g) tv rs ns) : PH (w.setCell ⟨gb, 0, none⟩ (.int .i32 0)) gb (gnOf rd 0 g) tv rs ns := h.setMu 0

set_option maxHeartbeats 400000 in
theorem held_any (h : PG rd w gb g tv rs ns) :
    Calls Try.prog 20 #[.pointer (some ⟨gb, 0, none⟩)] w fun e w' => e = .returned (.int .i64 (Tg.held g.all)) ∧ PG rd w' gb g tv rs ns ∧ Tch (PS gb tv rs ns) w w' := by
  have c0 := h.ph.gcell 0
  have f0 := h.ph.gfr 0
  have h1 := h.ph.lock
  have d5 := h1.gcell 5
  have d0 := h1.gcell 0
  have df := h1.gfr 0
  simp [gnOf] at c0 d5 d0
  go_enter_defers Try.func20, Try.ntmps20
  go_wp2_with (go_at_call 35; refine (lock_free Try.muLib ⟨gb, 0, none⟩ _ c0 f0).mono ?_; rintro e w' ⟨rfl, rfl⟩)
  refine leaves_cons (f := 36) (args := #[.pointer (some ⟨gb, 0, none⟩)]) (by simp) (by simp [go_sem]) ?_
  refine (unlock_deferred Try.muLib ⟨gb, 0, none⟩ .returning _ d0 df).mono ?_
  rintro e u' w'' ⟨rfl, rfl, rfl⟩
  exact ⟨_, results_tmp rfl _ _ _, rfl, ⟨h1.unlock, h.rel⟩, ((Tch.refl _ _).setCell (p := ⟨gb, 0, none⟩) (Or.inl (PS.gate _ _ _ _)) _).setCell (p := ⟨gb, 0, none⟩) (Or.inl (PS.gate _ _ _ _)) _⟩

theorem RecOk.state {r : Rc} {t : Tg.Tk} (h : RecOk r t) : recState r = t.state := by
  unfold recState
  rw [h.opn]
  by_cases e : t.state = 1
  · simp [e]
  · simp [e]; exact h.stands e

theorem Rel.recAt (h : Rel g.all rs ns ixs) (i : Nat) (hi : i < rs.length) (hg : i < g.all.length) : RecOk rs[i] g.all[i] := by
  obtain ⟨r, hr, ro⟩ := h.rcs i _ (List.getElem?_eq_getElem hg)
  rw [List.getElem?_eq_getElem hi] at hr
  simp at hr
  subst hr
  exact ro

set_option maxHeartbeats 1000000 in
theorem state_call (h : PG rd w gb g tv rs ns) (n : Int) :
    Calls Try.prog 25 #[.pointer (some ⟨gb, 0, none⟩), .int .i64 n] w fun e w' => e = .returned (.tuple #[.int .i64 (Tg.stateOf g.all n).1, .int .i64 (Tg.stateOf g.all n).2]) ∧ PG rd w' gb g tv rs ns ∧ Tch (PS gb tv rs ns) w w' := by
  obtain ⟨ixs, hrel⟩ := h.rel
  have c0 := h.ph.gcell 0
  have f0 := h.ph.gfr 0
  have h1 := h.ph.lock
  have d0 := h1.gcell 0
  have df := h1.gfr 0
  simp [gnOf] at c0 d0
  have T : Tch (PS gb tv rs ns) w ((w.setCell ⟨gb, 0, none⟩ (.int .i32 1)).setCell ⟨gb, 0, none⟩ (.int .i32 0)) := ((Tch.refl _ _).setCell (p := ⟨gb, 0, none⟩) (Or.inl (PS.gate _ _ _ _)) _).setCell (p := ⟨gb, 0, none⟩) (Or.inl (PS.gate _ _ _ _)) _
  by_cases hv : 1 ≤ n ∧ n ≤ g.all.length
  · obtain ⟨k, rfl⟩ : ∃ k : Nat, n = (k : Int) + 1 := ⟨(n - 1).toNat, by omega⟩
    have hk : k < g.all.length := by omega
    have hkr : k < rs.length := by rw [hrel.len]; exact hk
    have hs : Tg.stateOf g.all ((k : Int) + 1) = (g.all[k].state, 0) := by
      unfold Tg.stateOf; rw [if_pos hv]; simp [hk]
    rw [hs]
    have HR := hid (hrel.recAt k hkr hk).state
    clear hs hv hrel
    go_enter_defers Try.func25, Try.ntmps25
    go_wp2_with (first | (go_at_call 35; refine (lock_free Try.muLib ⟨gb, 0, none⟩ _ c0 f0).mono ?_; rintro e w' ⟨rfl, rfl⟩) | (go_at_call 48; refine (find_good h1 k hkr).mono ?_; rintro e w' ⟨rfl, rfl⟩) | (go_at_call 45; refine (state_any h1 (List.getElem_mem hkr)).mono ?_; rintro e w' ⟨rfl, rfl⟩))
    refine leaves_cons (f := 36) (args := #[.pointer (some ⟨gb, 0, none⟩)]) (by simp) (by simp [go_sem]) ?_
    refine (unlock_deferred Try.muLib ⟨gb, 0, none⟩ .returning _ d0 df).mono ?_
    rintro e u' w'' ⟨rfl, rfl, rfl⟩
    rw [← HR.out]
    exact ⟨_, results_tmp2 rfl _ _ _, rfl, ⟨h1.unlock, h.rel⟩, T⟩
  · have hs : Tg.stateOf g.all n = (0, 6) := by unfold Tg.stateOf; rw [if_neg hv]
    rw [hs]
    have hv' : ¬ (1 ≤ n ∧ n ≤ rs.length) := by rw [hrel.len]; exact hv
    clear hs hv hrel
    go_enter_defers Try.func25, Try.ntmps25
    go_wp2_with (first | (go_at_call 35; refine (lock_free Try.muLib ⟨gb, 0, none⟩ _ c0 f0).mono ?_; rintro e w' ⟨rfl, rfl⟩) | (go_at_call 48; refine (find_bad h1 n hv').mono ?_; rintro e w' ⟨rfl, rfl⟩))
    refine leaves_cons (f := 36) (args := #[.pointer (some ⟨gb, 0, none⟩)]) (by simp) (by simp [go_sem]) ?_
    refine (unlock_deferred Try.muLib ⟨gb, 0, none⟩ .returning _ d0 df).mono ?_
    rintro e u' w'' ⟨rfl, rfl, rfl⟩
    exact ⟨_, results_tmp2 rfl _ _ _, rfl, ⟨h1.unlock, h.rel⟩, T⟩

set_option maxHeartbeats 1000000 in
theorem new_call (room pass : Int) (w : World) :
    Calls Try.prog 34 #[.int .i64 room, .int .i64 pass] w fun e w' =>
      (Tg.newErr room pass = 0 ∧ e = .returned (.tuple #[.pointer (some ⟨w.heap.size, 0, none⟩), .int .i64 0]) ∧ PG none w' w.heap.size (Tg.fresh room pass) (.slice none 0 0) [] [] ∧ Tch (fun _ => False) w w') ∨
      (Tg.newErr room pass ≠ 0 ∧ e = .returned (.tuple #[.pointer none, .int .i64 (Tg.newErr room pass)]) ∧ w' = w) := by
  by_cases h1 : 0 ≤ room ∧ room ≤ 1000
  · by_cases h2 : 0 ≤ pass ∧ pass ≤ 20
    · have he : Tg.newErr room pass = 0 := by unfold Tg.newErr; rw [if_neg (by simpa using h1), if_neg (by simpa using h2)]
      have HE := hid he; clear he
      go_enter Try.func34, Try.ntmps34
      go_wp2
      all_goals
        go_ret2
        refine Or.inl ⟨HE.out, rfl, ⟨⟨heap_alloc_new _ _, World.ownsRow_nil _ _ _ _, by simp, by simp, by simp, by simp, by simp, by simp⟩, [], ⟨rfl, by simp [Tg.fresh], rfl, by simp, by simp [Tg.fresh], by simp⟩⟩, (Tch.refl _ _).alloc _⟩
    · have he : Tg.newErr room pass = 2 := by unfold Tg.newErr; rw [if_neg (by simpa using h1), if_pos h2]
      have HE := hid he; clear he
      go_enter Try.func34, Try.ntmps34
      go_wp2
      all_goals
        go_ret2
        exact Or.inr ⟨by rw [HE.out]; omega, by rw [HE.out]; rfl, rfl⟩
  · have he : Tg.newErr room pass = 1 := by unfold Tg.newErr; rw [if_pos h1]
    have HE := hid he; clear he
    go_enter Try.func34, Try.ntmps34
    go_wp2
    all_goals
      go_ret2
      exact Or.inr ⟨by rw [HE.out]; omega, by rw [HE.out]; rfl, rfl⟩
end

end Go.Proofs.Ytekjgjhhjlcoaaa
