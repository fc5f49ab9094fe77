import Derived.Test.YtekjgjhhjlcoaaaPrgH
namespace Go.Proofs.Ytekjgjhhjlcoaaa
open Go.RowKit Go.Conc

theorem mkChan (w : World) : (Instr.makeChan 84 (.int .i64 0)).run Try.prog w = .ok (.chan (some w.heap.size)) (w.alloc (.chan 0 #[] false 0 0 false)) := by
  have h : (Try.prog.info? 56).map (·.bytes) = some 0 := by kernel_rfl
  obtain ⟨i, hi, hb⟩ := Option.map_eq_some_iff.1 h
  simpa using run_makeChan (P := Try.prog) (w := w) Try.underlying84 hi .i64 0 (by omega) (by rw [hb]; omega)

section
variable {w w' : World} {gb : Nat} {q : Gn} {tv : Value} {rs : List Rc} {ns : List Nd}

theorem PH.setOver (h : PH w gb q tv rs ns) (i : Nat) (hi : i < rs.length) :
    PH ((w.setCell ⟨rs[i].blk, 2, none⟩ (.chan (some w.heap.size))).alloc (.chan 0 #[] false 0 0 false)) gb q tv (rs.set i { rs[i] with ch := some (w.heap.size, false) }) ns := by
  have hr := h.recs _ (List.getElem_mem hi)
  have hlt := lt_of_block hr
  refine h.recSet i hi _ rfl (fun k hk h1 _ => ?_) ?_ ?_ ?_ ?_
  · rw [heap_al, if_neg (by rw [size_set]; omega), heap_put, if_neg h1]
  · rw [heap_al, if_neg (by rw [size_set]; omega), heap_put, if_pos rfl, hr]
    rfl
  · intro c s hc
    simp at hc
    obtain ⟨rfl, rfl⟩ := hc
    show (World.alloc _ _).heap[_]? = _
    rw [heap_al, if_pos (by rw [size_set])]
  · intro c s hc j hj _ c' s' hc'
    simp at hc
    obtain ⟨rfl, rfl⟩ := hc
    have := lt_of_block (h.chans _ (List.getElem_mem hj) c' s' hc')
    omega
  · intro c s hc
    simp at hc
    obtain ⟨rfl, rfl⟩ := hc
    exact Or.inr (Nat.le_refl _)

theorem PS.mono_rec {i : Nat} (hi : i < rs.length) {r' : Rc} (hb : r'.blk = rs[i].blk) {k : Nat} (hk : PS gb tv (rs.set i r') ns k) : PS gb tv rs ns k ∨ ∃ c s, r'.ch = some (c, s) ∧ k = c := by
  have mem : ∀ r ∈ rs.set i r', r = r' ∨ r ∈ rs := fun r hr => by
    rcases List.mem_or_eq_of_mem_set hr with x | x
    · exact Or.inr x
    · exact Or.inl x
  rcases hk with x | x | ⟨r, hr, x⟩ | ⟨r, hr, c, s, hc, x⟩ | x
  · exact Or.inl (Or.inl x)
  · exact Or.inl (Or.inr (Or.inl x))
  · rcases mem r hr with rfl | hr'
    · exact Or.inl (Or.inr (Or.inr (Or.inl ⟨_, List.getElem_mem hi, by rw [x, hb]⟩)))
    · exact Or.inl (Or.inr (Or.inr (Or.inl ⟨r, hr', x⟩)))
  · rcases mem r hr with rfl | hr'
    · exact Or.inr ⟨c, s, hc, x⟩
    · exact Or.inl (Or.inr (Or.inr (Or.inr (Or.inl ⟨r, hr', c, s, hc, x⟩))))
  · exact Or.inl (Or.inr (Or.inr (Or.inr (Or.inr x))))

attribute [local go_sem] alloc_drewN setCell_drewN

set_option maxRecDepth 20000 in
set_option maxHeartbeats 1000000 in
theorem enqueue_any (h : PH w gb q tv rs ns) (i : Nat) (hi : i < rs.length) (band wait : Int) (t1 : 0 ≤ q.time) (t2 : q.time ≤ 4611686018427387904) (w1 : -1 ≤ wait) (w2 : wait ≤ 1000000) :
    Calls Try.prog 43 #[.pointer (some ⟨gb, 0, none⟩), .int .i64 ((i : Int) + 1), .int .i64 band, .int .i64 wait] w fun e w' => e = .returned (.tuple #[]) ∧
      ∃ c nb, w.heap.size ≤ c ∧ w.heap.size ≤ nb ∧ PH w' gb q tv (rs.set i { rs[i] with ch := some (c, false) }) (ns ++ [⟨nb, (i : Int) + 1, rs[i].blk, band, 0, if wait = -1 then -1 else q.time + wait⟩]) ∧ Tch (PS gb tv rs ns) w w' := by
  obtain ⟨ao, cap, rfl, hl, hao⟩ := h.form
  obtain ⟨ab, rfl, ci⟩ := hao i hi
  unfold pr at ci
  have c6 := h.gcell 6
  simp at c6
  have c4 := h.gcell 4
  have r2 := h.rcell (List.getElem_mem hi) 2
  have fr2 := h.rfr (List.getElem_mem hi) 2
  simp at c4 r2
  have hmk := mkChan
  have hrl := lt_of_block (h.recs _ (List.getElem_mem hi))
  have h1 := h.setOver i hi
  have hgl := lt_of_block h.gate
  have hne : gb ≠ rs[i].blk := ne_of_kind h.gate (h.recs _ (List.getElem_mem hi)) (by simp [kind_cells, kind_gate, recObj])
  by_cases hw : wait = -1
  · have hw' : (wait != -1) = false := by simp [hw]
    rw [if_pos hw]
    clear hw
    go_enter Try.func43, Try.ntmps43
    go_wp2_with (go_at_call 78; refine (append_any h1 ((i : Int) + 1) rs[i].blk band 0 (-1)).mono ?_; rintro e w3 ⟨v, nb, rfl, hnb, hp, ht⟩)
    go_end0
    refine ⟨rfl, w.heap.size, nb, Nat.le_refl _, by simp at hnb; omega, hp, ?_⟩
    refine (((Tch.refl _ _).setCell (p := ⟨rs[i].blk, 2, none⟩) (Or.inl (PS.rec _ _ _ _ i hi)) _).alloc _).trans' ht fun k hk => ?_
    rcases PS.mono_rec hi (by rfl) hk with x | ⟨c, s, hc, x⟩
    · exact Or.inl x
    · simp at hc
      exact Or.inr (by omega)
  · have hw' : (wait != -1) = true := by simp [hw]
    rw [if_neg hw]
    clear hw
    go_enter Try.func43, Try.ntmps43
    go_wp2_with (go_at_call 78; refine (append_any h1 ((i : Int) + 1) rs[i].blk band 0 (q.time + wait)).mono ?_; rintro e w3 ⟨v, nb, rfl, hnb, hp, ht⟩)
    go_end0
    refine ⟨rfl, w.heap.size, nb, Nat.le_refl _, by simp at hnb; omega, hp, ?_⟩
    refine (((Tch.refl _ _).setCell (p := ⟨rs[i].blk, 2, none⟩) (Or.inl (PS.rec _ _ _ _ i hi)) _).alloc _).trans' ht fun k hk => ?_
    rcases PS.mono_rec hi (by rfl) hk with x | ⟨c, s, hc, x⟩
    · exact Or.inl x
    · simp at hc
      exact Or.inr (by omega)
end

end Go.Proofs.Ytekjgjhhjlcoaaa
