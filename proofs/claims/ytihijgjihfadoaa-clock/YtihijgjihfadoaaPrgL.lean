import Derived.Test.YtihijgjihfadoaaPrgK
import Derived.Conc.MuLib
import Derived.Conc.MuLone
import Derived.KernelRfl
namespace Go.Proofs
abbrev Try.muLink : Go.Conc.Locks.MuLink := { lock := 29, unlock := 30, ilock := 66, iunlock := 67, lockSlow := 90, unlockSlow := 93, disable := 86, enable := 88, acquire := 89, relMerge := 91, cas32 := 87, add32 := 92, tMutex := 67, tIMutex := 65, tPMutex := 100, tPIMutex := 128, tPI32 := 130, tUP := 132, tNoCopy := 62, tU32 := 63 }
theorem Try.muLib : Go.Conc.Locks.MuLib Try.prog Try.muLink :=
  ⟨Try.func29, Try.func30, Try.func66, Try.func67, Try.func86, Try.func88, Try.func89, Try.func91, Try.func87, Try.func92,
    Try.underlying65, Try.runUnderlying65, Try.sizeOf65, Try.isAgg65, Try.zeroValue65,
    Try.underlying67, Try.runUnderlying67, Try.sizeOf67, Try.isAgg67, Try.zeroValue67,
    Try.underlying100, Try.runUnderlying100, Try.sizeOf100, Try.isAgg100, Try.zeroValue100,
    Try.underlying128, Try.runUnderlying128, Try.sizeOf128, Try.isAgg128, Try.zeroValue128,
    Try.underlying130, Try.runUnderlying130, Try.sizeOf130, Try.isAgg130, Try.zeroValue130,
    Try.underlying132, Try.runUnderlying132, Try.sizeOf132, Try.isAgg132, Try.zeroValue132,
    Try.underlying62, Try.runUnderlying62, Try.sizeOf62, Try.isAgg62, Try.zeroValue62,
    Try.underlying21, Try.runUnderlying21, Try.sizeOf21, Try.isAgg21, Try.zeroValue21, (by kernel_rfl)⟩
end Go.Proofs
namespace Go.Proofs.Ytihijgjihfadoaa
open Go.RowKit Go.Conc Go.MuLone

section
variable {w : World} {gb : Nat} {g : Tg.Gt} {tv : Value} {rs : List Rc} {ns : List Nd} {ixs : List Nat}

/-- A gate of the program between two calls: in memory, unlocked, and what it says of its tickets. -/
structure PG (w : World) (gb : Nat) (g : Tg.Gt) (tv : Value) (rs : List Rc) (ns : List Nd) : Prop where
  ph : PH w gb (gnOf 0 g) tv rs ns
  rel : ∃ ixs, Rel g.all rs ns ixs

theorem PH.lock (h : PH w gb (gnOf 0 g) tv rs ns) : PH (w.setCell ⟨gb, 0, none⟩ (.int .i32 1)) gb (gnOf 1 g) tv rs ns := h.setMu 1
theorem PH.unlock (h : PH w gb (gnOf 1 g) tv rs ns) : PH (w.setCell ⟨gb, 0, none⟩ (.int .i32 0)) gb (gnOf 0 g) tv rs ns := h.setMu 0

set_option maxHeartbeats 400000 in
theorem held_any (h : PG w gb g tv rs ns) :
    Calls Try.prog 18 #[.pointer (some ⟨gb, 0, none⟩)] w fun e w' => e = .returned (.int .i64 (Tg.held g.all)) ∧ PG w' gb g tv rs ns ∧ Tch (PS gb tv rs ns) w w' := by
  have c0 := h.ph.gcell 0
  have f0 := h.ph.gfr 0
  have h1 := h.ph.lock
  have d5 := h1.gcell 5
  have d0 := h1.gcell 0
  have df := h1.gfr 0
  simp [gnOf] at c0 d5 d0
  go_enter_defers Try.func18, Try.ntmps18
  go_wp2_with (go_at_call 29; refine (lock_free Try.muLib ⟨gb, 0, none⟩ _ c0 f0).mono ?_; rintro e w' ⟨rfl, rfl⟩)
  refine leaves_cons (f := 30) (args := #[.pointer (some ⟨gb, 0, none⟩)]) (by simp) (by simp [go_sem]) ?_
  refine (unlock_deferred Try.muLib ⟨gb, 0, none⟩ .returning _ d0 df).mono ?_
  rintro e u' w'' ⟨rfl, rfl, rfl⟩
  exact ⟨_, results_tmp rfl _ _ _, rfl, ⟨h1.unlock, h.rel⟩, ((Tch.refl _ _).setCell (p := ⟨gb, 0, none⟩) (Or.inl (PS.gate _ _ _ _)) _).setCell (p := ⟨gb, 0, none⟩) (Or.inl (PS.gate _ _ _ _)) _⟩

theorem RecOk.state {r : Rc} {t : Tg.Tk} (h : RecOk r t) : recState r = t.state := by
  unfold recState
  rw [h.opn]
  by_cases e : t.state = 1
  · simp [e]
  · simp [e]; exact h.stands e

theorem Rel.recAt (h : Rel g.all rs ns ixs) (i : Nat) (hi : i < rs.length) (hg : i < g.all.length) : RecOk rs[i] g.all[i] := by
  obtain ⟨r, hr, ro⟩ := h.rcs i _ (List.getElem?_eq_getElem hg)
  rw [List.getElem?_eq_getElem hi] at hr
  simp at hr
  subst hr
  exact ro

set_option maxHeartbeats 1000000 in
theorem state_call (h : PG w gb g tv rs ns) (n : Int) :
    Calls Try.prog 23 #[.pointer (some ⟨gb, 0, none⟩), .int .i64 n] w fun e w' => e = .returned (.tuple #[.int .i64 (Tg.stateOf g.all n).1, .int .i64 (Tg.stateOf g.all n).2]) ∧ PG w' gb g tv rs ns ∧ Tch (PS gb tv rs ns) w w' := by
  obtain ⟨ixs, hrel⟩ := h.rel
  have c0 := h.ph.gcell 0
  have f0 := h.ph.gfr 0
  have h1 := h.ph.lock
  have d0 := h1.gcell 0
  have df := h1.gfr 0
  simp [gnOf] at c0 d0
  have T : Tch (PS gb tv rs ns) w ((w.setCell ⟨gb, 0, none⟩ (.int .i32 1)).setCell ⟨gb, 0, none⟩ (.int .i32 0)) := ((Tch.refl _ _).setCell (p := ⟨gb, 0, none⟩) (Or.inl (PS.gate _ _ _ _)) _).setCell (p := ⟨gb, 0, none⟩) (Or.inl (PS.gate _ _ _ _)) _
  by_cases hv : 1 ≤ n ∧ n ≤ g.all.length
  · obtain ⟨k, rfl⟩ : ∃ k : Nat, n = (k : Int) + 1 := ⟨(n - 1).toNat, by omega⟩
    have hk : k < g.all.length := by omega
    have hkr : k < rs.length := by rw [hrel.len]; exact hk
    have hs : Tg.stateOf g.all ((k : Int) + 1) = (g.all[k].state, 0) := by
      unfold Tg.stateOf; rw [if_pos hv]; simp [hk]
    rw [hs]
    have HR := hid (hrel.recAt k hkr hk).state
    clear hs hv hrel
    go_enter_defers Try.func23, Try.ntmps23
    go_wp2_with (first | (go_at_call 29; refine (lock_free Try.muLib ⟨gb, 0, none⟩ _ c0 f0).mono ?_; rintro e w' ⟨rfl, rfl⟩) | (go_at_call 42; refine (find_good h1 k hkr).mono ?_; rintro e w' ⟨rfl, rfl⟩) | (go_at_call 39; refine (state_any h1 (List.getElem_mem hkr)).mono ?_; rintro e w' ⟨rfl, rfl⟩))
    refine leaves_cons (f := 30) (args := #[.pointer (some ⟨gb, 0, none⟩)]) (by simp) (by simp [go_sem]) ?_
    refine (unlock_deferred Try.muLib ⟨gb, 0, none⟩ .returning _ d0 df).mono ?_
    rintro e u' w'' ⟨rfl, rfl, rfl⟩
    rw [← HR.out]
    exact ⟨_, results_tmp2 rfl _ _ _, rfl, ⟨h1.unlock, h.rel⟩, T⟩
  · have hs : Tg.stateOf g.all n = (0, 6) := by unfold Tg.stateOf; rw [if_neg hv]
    rw [hs]
    have hv' : ¬ (1 ≤ n ∧ n ≤ rs.length) := by rw [hrel.len]; exact hv
    clear hs hv hrel
    go_enter_defers Try.func23, Try.ntmps23
    go_wp2_with (first | (go_at_call 29; refine (lock_free Try.muLib ⟨gb, 0, none⟩ _ c0 f0).mono ?_; rintro e w' ⟨rfl, rfl⟩) | (go_at_call 42; refine (find_bad h1 n hv').mono ?_; rintro e w' ⟨rfl, rfl⟩))
    refine leaves_cons (f := 30) (args := #[.pointer (some ⟨gb, 0, none⟩)]) (by simp) (by simp [go_sem]) ?_
    refine (unlock_deferred Try.muLib ⟨gb, 0, none⟩ .returning _ d0 df).mono ?_
    rintro e u' w'' ⟨rfl, rfl, rfl⟩
    exact ⟨_, results_tmp2 rfl _ _ _, rfl, ⟨h1.unlock, h.rel⟩, T⟩

set_option maxHeartbeats 1000000 in
theorem new_call (room pass : Int) (w : World) :
    Calls Try.prog 26 #[.int .i64 room, .int .i64 pass] w fun e w' =>
      (Tg.newErr room pass = 0 ∧ e = .returned (.tuple #[.pointer (some ⟨w.heap.size, 0, none⟩), .int .i64 0]) ∧ PG w' w.heap.size (Tg.fresh room pass) (.slice none 0 0) [] [] ∧ Tch (fun _ => False) w w') ∨
      (Tg.newErr room pass ≠ 0 ∧ e = .returned (.tuple #[.pointer none, .int .i64 (Tg.newErr room pass)]) ∧ w' = w) := by
  by_cases h1 : 0 ≤ room ∧ room ≤ 1000
  · by_cases h2 : 0 ≤ pass ∧ pass ≤ 20
    · have he : Tg.newErr room pass = 0 := by unfold Tg.newErr; rw [if_neg (by simpa using h1), if_neg (by simpa using h2)]
      have HE := hid he; clear he
      go_enter Try.func26, Try.ntmps26
      go_wp2
      all_goals
        go_ret2
        refine Or.inl ⟨HE.out, rfl, ⟨⟨heap_alloc_new _ _, World.ownsRow_nil _ _ _ _, by simp, by simp, by simp, by simp, by simp, by simp⟩, [], ⟨rfl, by simp [Tg.fresh], rfl, by simp, by simp [Tg.fresh], by simp⟩⟩, (Tch.refl _ _).alloc _⟩
    · have he : Tg.newErr room pass = 2 := by unfold Tg.newErr; rw [if_neg (by simpa using h1), if_pos h2]
      have HE := hid he; clear he
      go_enter Try.func26, Try.ntmps26
      go_wp2
      all_goals
        go_ret2
        exact Or.inr ⟨by rw [HE.out]; omega, by rw [HE.out]; rfl, rfl⟩
  · have he : Tg.newErr room pass = 1 := by unfold Tg.newErr; rw [if_pos h1]
    have HE := hid he; clear he
    go_enter Try.func26, Try.ntmps26
    go_wp2
    all_goals
      go_ret2
      exact Or.inr ⟨by rw [HE.out]; omega, by rw [HE.out]; rfl, rfl⟩
end

end Go.Proofs.Ytihijgjihfadoaa
