import Derived.Test.YtekjgjhhjlcoaaaPrgB
namespace Go.Proofs.Ytekjgjhhjlcoaaa
open Go.RowKit Go.Conc

/-- Its channel is open: it waits. -/
def isOpen (r : Rc) : Bool := match r.ch with | some (_, false) => true | _ => false
def recState (r : Rc) : Int := if isOpen r then 1 else r.stands
def settleR (s : Int) (r : Rc) : Rc := { r with stands := s, ch := r.ch.map fun c => (c.1, true) }

section
variable {w : World} {gb : Nat} {q : Gn} {tv : Value} {rs : List Rc} {ns : List Nd}

theorem waits_any (h : PH w gb q tv rs ns) {r : Rc} (hr : r ∈ rs) :
    Calls Try.prog 52 #[pr r.blk] w fun e w' => e = .returned (.bool (isOpen r)) ∧ w' = w := by
  have h2 := h.rcell hr 2
  match hc : r.ch with
  | none =>
    simp [hc] at h2
    have e : isOpen r = false := by simp [isOpen, hc]
    rw [e]; exact waits_nil r.blk w h2
  | some (c, true) =>
    simp [hc] at h2
    have e : isOpen r = false := by simp [isOpen, hc]
    rw [e]; exact waits_shut r.blk c w h2 (h.chans r hr c true hc)
  | some (c, false) =>
    simp [hc] at h2
    have e : isOpen r = true := by simp [isOpen, hc]
    rw [e]; exact waits_open r.blk c w h2 (h.chans r hr c false hc)

theorem waits_is (h : PH w gb q tv rs ns) {r : Rc} (hr : r ∈ rs) (o : Bool) (ho : isOpen r = o) :
    Calls Try.prog 52 #[.pointer (some ⟨r.blk, 0, none⟩)] w fun e w' => e = .returned (.bool o) ∧ w' = w := by
  subst ho; exact waits_any h hr

set_option maxHeartbeats 400000 in
theorem state_any (h : PH w gb q tv rs ns) {r : Rc} (hr : r ∈ rs) :
    Calls Try.prog 45 #[.pointer (some ⟨r.blk, 0, none⟩)] w fun e w' => e = .returned (.int .i64 (recState r)) ∧ w' = w := by
  have c1 := h.rcell hr 1
  simp at c1
  cases ho : isOpen r with
  | true =>
    have e : recState r = 1 := by simp [recState, ho]
    rw [e]
    have HO := hid ho; clear ho e
    go_enter Try.func45, Try.ntmps45
    go_wp2_with (go_at_call 52; refine (waits_is h hr true HO.out).mono ?_; rintro e w' ⟨rfl, rfl⟩)
    go_ret
    exact ⟨rfl, rfl⟩
  | false =>
    have e : recState r = r.stands := by simp [recState, ho]
    rw [e]
    have HO := hid ho; clear ho e
    go_enter Try.func45, Try.ntmps45
    go_wp2_with (go_at_call 52; refine (waits_is h hr false HO.out).mono ?_; rintro e w' ⟨rfl, rfl⟩)
    go_ret
    exact ⟨rfl, rfl⟩

theorem recObj_stands (r : Rc) (s : Int) : (.cells (#[.int .i64 r.weight, .int .i64 r.stands, .chan (r.ch.map (·.1))].setIfInBounds 1 (.int .i64 s)) 86 (0, 0) : Obj) = recObj { r with stands := s } := rfl

/-- A store into a record's field 'stands'. -/
theorem PH.setStands (h : PH w gb q tv rs ns) (i : Nat) (hi : i < rs.length) (s : Int) : PH (w.setCell ⟨rs[i].blk, 1, none⟩ (.int .i64 s)) gb q tv (rs.set i { rs[i] with stands := s }) ns := by
  have hr := h.recs _ (List.getElem_mem hi)
  have keep : ∀ k, k ≠ rs[i].blk → (w.setCell ⟨rs[i].blk, 1, none⟩ (.int .i64 s)).heap[k]? = w.heap[k]? := fun k hk => Below.heap_setCell _ _ _ _ hk
  refine h.recSet i hi _ rfl (fun k _ h1 _ => keep k h1) ?_ ?_ ?_ ?_
  · exact heap_setCell_same w rs[i].blk 1 _ _ _ hr
  · intro c s' hc
    have := h.chans _ (List.getElem_mem hi) c s' hc
    exact (keep c (ne_of_kind this hr (by simp [kind_cells, kind_chan, recObj]))).trans this
  · intro c s' hc j hj hne c' s'' hc'
    exact fun e => h.nd3 i j hi hj (fun x => hne x.symm) c s' c' s'' hc hc' e
  · intro c s' hc
    exact Or.inl ⟨s', h.chans _ (List.getElem_mem hi) c s' hc⟩

/-- The channel of a record is closed. -/
theorem PH.shut (h : PH w gb q tv rs ns) (i : Nat) (hi : i < rs.length) (c : Nat) (s0 : Bool) (hc : rs[i].ch = some (c, s0)) :
    PH { w with heap := w.heap.setIfInBounds c (.chan 0 #[] true 0 0 false) } gb q tv (rs.set i { rs[i] with ch := some (c, true) }) ns := by
  have hr := h.recs _ (List.getElem_mem hi)
  have hch := h.chans _ (List.getElem_mem hi) c s0 hc
  have hne : rs[i].blk ≠ c := ne_of_kind hr hch (by simp [kind_cells, kind_chan, recObj])
  have keep : ∀ k, k ≠ c → ({ w with heap := w.heap.setIfInBounds c (.chan 0 #[] true 0 0 false) } : World).heap[k]? = w.heap[k]? := fun k hk => by
    show (w.heap.setIfInBounds c _)[k]? = _
    rw [Array.getElem?_setIfInBounds_ne (fun e => hk e.symm)]
  refine h.recSet i hi _ rfl (fun k _ _ h2 => keep k (h2 c true rfl)) ?_ ?_ ?_ ?_
  · rw [keep _ hne, hr]; simp [recObj, hc]
  · intro c' s' hc'
    simp at hc'
    obtain ⟨rfl, rfl⟩ := hc'
    show (w.heap.setIfInBounds _ _)[_]? = _
    have := lt_of_block hch
    simp [this]
  · intro c' s' hc' j hj hj2 c2 s2 hc2
    simp at hc'
    obtain ⟨rfl, rfl⟩ := hc'
    exact fun e => h.nd3 i j hi hj (fun x => hj2 x.symm) _ s0 c2 s2 hc hc2 e
  · intro c' s' hc'
    simp at hc'
    obtain ⟨rfl, rfl⟩ := hc'
    exact Or.inl ⟨s0, hch⟩

theorem Tch.chan {S : Nat → Prop} {a w : World} (h : Tch S a w) {c : Nat} (hc : S c ∨ a.heap.size ≤ c) (o : Obj) : Tch S a { w with heap := w.heap.setIfInBounds c o } :=
  ⟨h.os, h.tape, h.output, by simpa using h.size, fun k hk hn => by
    show (w.heap.setIfInBounds c o)[k]? = _
    rw [Array.getElem?_setIfInBounds_ne (by rintro rfl; rcases hc with x | x; exact hn x; omega)]; exact h.block k hk hn⟩

theorem PS.rec (gb : Nat) (tv : Value) (rs : List Rc) (ns : List Nd) (i : Nat) (hi : i < rs.length) : PS gb tv rs ns rs[i].blk := Or.inr (Or.inr (Or.inl ⟨_, List.getElem_mem hi, rfl⟩))
theorem PS.chan (gb : Nat) (tv : Value) (rs : List Rc) (ns : List Nd) (i : Nat) (hi : i < rs.length) (c : Nat) (s : Bool) (hc : rs[i].ch = some (c, s)) : PS gb tv rs ns c := Or.inr (Or.inr (Or.inr (Or.inl ⟨_, List.getElem_mem hi, c, s, hc, rfl⟩)))

set_option maxHeartbeats 400000 in
theorem settle_any (h : PH w gb q tv rs ns) (i : Nat) (hi : i < rs.length) (s : Int) :
    Calls Try.prog 42 #[.pointer (some ⟨rs[i].blk, 0, none⟩), .int .i64 s] w fun e w' => e = .returned (.tuple #[]) ∧ PH w' gb q tv (rs.set i (settleR s rs[i])) ns ∧ Tch (PS gb tv rs ns) w w' := by
  have c1 := h.rcell (List.getElem_mem hi) 1
  have c2 := h.rcell (List.getElem_mem hi) 2
  have f1 := h.rfr (List.getElem_mem hi) 1
  simp at c1 c2
  have h1 := h.setStands i hi s
  have hi' : i < (rs.set i { rs[i] with stands := s }).length := by simpa using hi
  have hm : ({ rs[i] with stands := s } : Rc) ∈ rs.set i { rs[i] with stands := s } := List.mem_set hi _
  have T1 : Tch (PS gb tv rs ns) w (w.setCell ⟨rs[i].blk, 1, none⟩ (.int .i64 s)) := (Tch.refl _ _).setCell (p := ⟨rs[i].blk, 1, none⟩) (Or.inl (PS.rec gb tv rs ns i hi)) _
  match hc : rs[i].ch with
  | none =>
    have e : settleR s rs[i] = { rs[i] with stands := s } := by simp [settleR, hc]
    rw [e]
    have HO : isOpen { rs[i] with stands := s } = false := by simp [isOpen, hc]
    have HH := hid HO
    clear HO e hc
    go_enter Try.func42, Try.ntmps42
    go_wp2_with (go_at_call 52; refine (waits_is h1 hm false HH.out).mono ?_; rintro e w' ⟨rfl, rfl⟩)
    go_end0
    exact ⟨rfl, h1, T1⟩
  | some (c, true) =>
    have e : settleR s rs[i] = { rs[i] with stands := s } := by simp [settleR, hc]
    rw [e]
    have HO : isOpen { rs[i] with stands := s } = false := by simp [isOpen, hc]
    have HH := hid HO
    clear HO e hc
    go_enter Try.func42, Try.ntmps42
    go_wp2_with (go_at_call 52; refine (waits_is h1 hm false HH.out).mono ?_; rintro e w' ⟨rfl, rfl⟩)
    go_end0
    exact ⟨rfl, h1, T1⟩
  | some (c, false) =>
    have hgc : (rs.set i { rs[i] with stands := s })[i].ch = some (c, false) := by simp [hc]
    have h2 := h1.shut i hi' c false hgc
    have e : (rs.set i { rs[i] with stands := s }).set i { (rs.set i { rs[i] with stands := s })[i] with ch := some (c, true) } = rs.set i (settleR s rs[i]) := by
      simp [settleR, hc]
    rw [e] at h2
    have HO : isOpen { rs[i] with stands := s } = true := by simp [isOpen, hc]
    have HH := hid HO
    have T2 := T1.chan (c := c) (Or.inl (PS.chan gb tv rs ns i hi c false hc)) (.chan 0 #[] true 0 0 false)
    have hch := h1.chans _ hm c false hc
    rw [hc] at c2
    simp at c2
    have hcl := fun ats ty => run_close_open (P := Try.prog) ats ty hch
    clear HO e hc hgc
    go_enter Try.func42, Try.ntmps42
    go_wp2_with (go_at_call 52; refine (waits_is h1 hm true HH.out).mono ?_; rintro e w' ⟨rfl, rfl⟩)
    go_end0
    exact ⟨rfl, h2, T2⟩
end

end Go.Proofs.Ytekjgjhhjlcoaaa
