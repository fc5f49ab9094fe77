import Derived.Test.YtekjgjhhjlcoaaaPrgF
namespace Go.Proofs.Ytekjgjhhjlcoaaa
open Go.RowKit Go.Conc

/-- A block behind a store. -/
def putObj (a : Addr) (v : Value) : Obj → Obj
  | .cells c e f => .cells (if a.spot.isSome then c else c.setIfInBounds a.off v) e f
  | o => o
theorem heap_put (w : World) (a : Addr) (v : Value) (k : Nat) : (w.setCell a v).heap[k]? = if k = a.block then (w.heap[k]?).map (putObj a v) else w.heap[k]? := by
  unfold World.setCell
  show (w.heap.modify a.block _)[k]? = _
  rw [Array.getElem?_modify]
  by_cases e : a.block = k
  · subst e
    simp only [if_true]
    cases w.heap[a.block]? with
    | none => rfl
    | some o => cases o <;> rfl
  · rw [if_neg e, if_neg (fun x => e x.symm)]

theorem put_gate7 {gb : Nat} {rd : Option Int} {mu room pass time held : Int} {tv fi la v : Value} : putObj ⟨gb, 7, none⟩ v (gateObj rd mu room pass time held tv fi la) = gateObj rd mu room pass time held tv v la := by cases rd <;> rfl
theorem put_gate8 {gb : Nat} {rd : Option Int} {mu room pass time held : Int} {tv fi la v : Value} : putObj ⟨gb, 8, none⟩ v (gateObj rd mu room pass time held tv fi la) = gateObj rd mu room pass time held tv fi v := by cases rd <;> rfl

theorem head_erase (ns : List Nd) (k : Nat) : (ns.eraseIdx k).head? = if k = 0 then ns[1]? else ns.head? := by
  rw [List.head?_eq_getElem?, List.getElem?_eraseIdx, List.head?_eq_getElem?]
  by_cases e : k = 0
  · subst e; simp
  · rw [if_pos (by omega), if_neg e]
theorem last_erase (ns : List Nd) (k : Nat) (hk : k < ns.length) : (ns.eraseIdx k).getLast? = if k + 1 = ns.length then prevOf ns k else ns.getLast? := by
  rw [List.getLast?_eq_getElem?, List.getElem?_eraseIdx, List.getLast?_eq_getElem?, List.length_eraseIdx_of_lt hk]
  by_cases e : k + 1 = ns.length
  · rw [if_pos e]
    unfold prevOf
    by_cases e0 : k = 0
    · rw [if_pos e0]
      subst e0
      rw [if_neg (by omega)]
      exact List.getElem?_eq_none (by omega)
    · rw [if_neg e0, if_pos (by omega)]
      congr 1
      omega
  · rw [if_neg e, if_neg (by omega)]
    congr 1
    omega

section
variable {w w' : World} {gb : Nat} {q : Gn} {tv : Value} {rs : List Rc} {ns : List Nd}

/-- One node is taken out: what the stores must have left. -/
theorem PH.take (h : PH w gb q tv rs ns) (k : Nat) (hk : k < ns.length)
    (F1 : ∀ x, x ≠ gb → (∀ j (hj : j < ns.length), x ≠ ns[j].blk) → w'.heap[x]? = w.heap[x]?)
    (F2 : w'.heap[gb]? = some (gateObj q.rd q.mu q.room q.pass q.time q.held tv (pn (if k = 0 then ns[1]? else ns.head?)) (pn (if k + 1 = ns.length then prevOf ns k else ns.getLast?))))
    (F3 : ∀ j (hj : j < ns.length), j ≠ k → w'.heap[ns[j].blk]? = some (.cells #[.int .i64 ns[j].num, pr ns[j].rcd, .int .i64 ns[j].band, .int .i64 ns[j].count, .int .i64 ns[j].till,
      pn (if j = k + 1 then prevOf ns k else prevOf ns j), pn (if j + 1 = k then ns[k + 1]? else ns[j + 1]?), .pointer (some ⟨gb, 7, none⟩)] 110 (0, 0))) :
    PH w' gb q tv rs (ns.eraseIdx k) := by
  have other : ∀ {x : Nat} {o : Obj}, w.heap[x]? = some o → kindOf o ≠ kindOf (gateObj none 0 0 0 0 0 tv tv tv) → kindOf o ≠ kindOf (nodeObj gb ns 0 ⟨0, 0, 0, 0, 0, 0⟩) → w'.heap[x]? = w.heap[x]? := by
    intro x o hh h1 h2
    refine F1 x (ne_of_kind hh h.gate (by simpa [kind_cells, kind_chan, kind_gate] using h1)) fun j hj => ne_of_kind hh (h.nodes j hj) (by simpa [kind_cells, kind_chan, nodeObj] using h2)
  refine ⟨by rw [head_erase, last_erase ns k hk]; exact F2, ownsRow_keep h.row fun x hx => ?_, fun r hr => ?_, fun r hr c s hc => ?_, fun i hi => ?_, h.nd1, ?_, h.nd3⟩
  · obtain ⟨cur, hh⟩ := h.rowBlk hx
    exact other hh (by simp [kind_cells, kind_gate]) (by simp [kind_cells, nodeObj])
  · exact (other (h.recs r hr) (by simp [kind_cells, kind_gate, recObj]) (by simp [kind_cells, nodeObj, recObj])).trans (h.recs r hr)
  · have hh := h.chans r hr c s hc
    exact (other hh (by simp [kind_chan, kind_gate]) (by simp [kind_cells, kind_chan, nodeObj])).trans hh
  · have hil : i + 1 < ns.length + 1 := by have := List.length_eraseIdx_of_lt hk; omega
    have hlen := List.length_eraseIdx_of_lt hk
    by_cases hik : i < k
    · have e : (ns.eraseIdx k)[i] = ns[i] := by rw [List.getElem_eraseIdx, dif_pos hik]
      rw [e, F3 i (by omega) (by omega)]
      unfold nodeObj
      rw [if_neg (by omega)]
      have e1 : prevOf (ns.eraseIdx k) i = prevOf ns i := by
        unfold prevOf
        split
        · rfl
        · rw [List.getElem?_eraseIdx, if_pos (by omega)]
      have e2 : (ns.eraseIdx k)[i + 1]? = if i + 1 = k then ns[k + 1]? else ns[i + 1]? := by
        rw [List.getElem?_eraseIdx]
        by_cases e3 : i + 1 = k
        · subst e3; simp
        · rw [if_pos (by omega), if_neg e3]
      rw [e1, e2]
    · have hi1 : i + 1 < ns.length := by omega
      have e : (ns.eraseIdx k)[i] = ns[i + 1] := by rw [List.getElem_eraseIdx, dif_neg hik]
      rw [e, F3 (i + 1) hi1 (by omega)]
      unfold nodeObj
      rw [if_neg (by omega : ¬ i + 1 + 1 = k)]
      have e1 : prevOf (ns.eraseIdx k) i = if i + 1 = k + 1 then prevOf ns k else prevOf ns (i + 1) := by
        by_cases e4 : i = k
        · subst e4
          rw [if_pos rfl]
          unfold prevOf
          split
          · rfl
          · rw [List.getElem?_eraseIdx, if_pos (by omega)]
        · rw [if_neg (by omega)]
          unfold prevOf
          rw [if_neg (by omega), if_neg (by omega), List.getElem?_eraseIdx, if_neg (by omega)]
          congr 1
          omega
      have e2 : (ns.eraseIdx k)[i + 1]? = ns[i + 1 + 1]? := by rw [List.getElem?_eraseIdx, if_neg (by omega)]
      rw [e1, e2]
  · have := h.nd2
    exact (this.sublist ((List.eraseIdx_sublist ns k).map _))

theorem PH.take2 (h : PH w gb q tv rs ns) (k : Nat) (hk : k < ns.length) (a1 a2 : Addr) (v1 v2 : Value)
    (A1 : (k = 0 ∧ a1 = ⟨gb, 7, none⟩) ∨ (k ≠ 0 ∧ ∃ hk' : k - 1 < ns.length, a1 = ⟨ns[k - 1].blk, 6, none⟩)) (V1 : v1 = pn ns[k + 1]?)
    (A2 : (k + 1 = ns.length ∧ a2 = ⟨gb, 8, none⟩) ∨ (∃ hk1 : k + 1 < ns.length, a2 = ⟨ns[k + 1].blk, 5, none⟩)) (V2 : v2 = pn (prevOf ns k)) :
    PH (((((w.setCell a1 v1).setCell a2 v2).setCell ⟨ns[k].blk, 5, none⟩ (.pointer none)).setCell ⟨ns[k].blk, 6, none⟩ (.pointer none)).setCell ⟨ns[k].blk, 7, none⟩ (.pointer none)) gb q tv rs (ns.eraseIdx k) := by
  have c3 : ∀ x, x ≠ ns[k].blk → (((((w.setCell a1 v1).setCell a2 v2).setCell ⟨ns[k].blk, 5, none⟩ (.pointer none)).setCell ⟨ns[k].blk, 6, none⟩ (.pointer none)).setCell ⟨ns[k].blk, 7, none⟩ (.pointer none)).heap[x]? = ((w.setCell a1 v1).setCell a2 v2).heap[x]? := by
    intro x hx
    rw [heap_put, if_neg hx, heap_put, if_neg hx, heap_put, if_neg hx]
  have gn : ∀ j (hj : j < ns.length), gb ≠ ns[j].blk := fun j hj => ne_of_kind h.gate (h.nodes j hj) (by simp [kind_cells, kind_gate, nodeObj])
  refine h.take k hk (fun x h1 h2 => ?_) ?_ fun j hj hjk => ?_
  · rw [c3 x (h2 k hk), heap_put, if_neg ?_, heap_put, if_neg ?_]
    · rcases A1 with ⟨_, rfl⟩ | ⟨_, y, rfl⟩
      · exact h1
      · exact h2 _ y
    · rcases A2 with ⟨_, rfl⟩ | ⟨y, rfl⟩
      · exact h1
      · exact h2 _ y
  · rw [c3 gb (gn k hk), heap_put, heap_put, h.gate]
    rcases A1 with ⟨x1, rfl⟩ | ⟨x1, y1, rfl⟩
    · rcases A2 with ⟨x2, rfl⟩ | ⟨y2, rfl⟩
      · rw [if_pos rfl, if_pos rfl, if_pos x1, if_pos x2, V1, V2]
        subst x1
        simp only [Option.map_some, put_gate7, put_gate8, Nat.zero_add]
      · rw [if_neg (gn _ y2), if_pos rfl, if_pos x1, if_neg (by omega), V1]
        subst x1
        simp only [Option.map_some, put_gate7, Nat.zero_add]
    · rcases A2 with ⟨x2, rfl⟩ | ⟨y2, rfl⟩
      · rw [if_pos rfl, if_neg (gn _ y1), if_neg x1, if_pos x2, V2]
        simp only [Option.map_some, put_gate8]
      · rw [if_neg (gn _ y2), if_neg (gn _ y1), if_neg x1, if_neg (by omega)]
  · have i1 : (w.setCell a1 v1).heap[ns[j].blk]? = some (.cells #[.int .i64 ns[j].num, pr ns[j].rcd, .int .i64 ns[j].band, .int .i64 ns[j].count, .int .i64 ns[j].till, pn (prevOf ns j), pn (if j + 1 = k then ns[k + 1]? else ns[j + 1]?), .pointer (some ⟨gb, 7, none⟩)] 110 (0, 0)) := by
      rw [heap_put, h.nodes j hj]
      unfold nodeObj
      rcases A1 with ⟨x1, rfl⟩ | ⟨x1, y1, rfl⟩
      · rw [if_neg (fun e => gn j hj e.symm), if_neg (by omega)]
      · by_cases e1 : j + 1 = k
        · have ej : j = k - 1 := by omega
          subst ej
          rw [if_pos rfl, if_pos e1, V1]; rfl
        · rw [if_neg (h.nodeNe hj y1 (by omega)), if_neg e1]
    rw [c3 _ (h.nodeNe hj hk hjk), heap_put, i1]
    rcases A2 with ⟨x2, rfl⟩ | ⟨y2, rfl⟩
    · rw [if_neg (fun e => gn j hj e.symm), if_neg (by omega : ¬ j = k + 1)]
    · by_cases e : j = k + 1
      · subst e; rw [if_pos rfl, if_pos rfl, V2]; rfl
      · rw [if_neg (h.nodeNe hj y2 e), if_neg e]

theorem take_cell0 {w : World} {kb : Nat} {v : Value} (h : w.cell? ⟨kb, 1, none⟩ = some v) (a1 a2 : Addr) (v1 v2 : Value) (h1 : a1 ≠ ⟨kb, 1, none⟩) (h2 : a2 ≠ ⟨kb, 1, none⟩) :
    (((((w.setCell a1 v1).setCell a2 v2).setCell ⟨kb, 5, none⟩ (.pointer none)).setCell ⟨kb, 6, none⟩ (.pointer none)).setCell ⟨kb, 7, none⟩ (.pointer none)).cell? ⟨kb, 1, none⟩ = some v := by
  rw [World.cell?_setCell_other _ _ _ _ (by simp), World.cell?_setCell_other _ _ _ _ (by simp), World.cell?_setCell_other _ _ _ _ (by simp), World.cell?_setCell_other _ _ _ _ h2, World.cell?_setCell_other _ _ _ _ h1]
  exact h

set_option maxRecDepth 20000 in
set_option maxHeartbeats 1000000 in
theorem take_any (h : PH w gb q tv rs ns) (k : Nat) (hk : k < ns.length) :
    Calls Try.prog 81 #[.pointer (some ⟨gb, 7, none⟩), .pointer (some ⟨ns[k].blk, 0, none⟩)] w fun e w' => e = .returned (.tuple #[]) ∧ PH w' gb q tv rs (ns.eraseIdx k) ∧ Tch (PS gb tv rs ns) w w' ∧ w'.cell? ⟨ns[k].blk, 1, none⟩ = some (pr ns[k].rcd) := by
  have n4 := h.ncell k hk 5
  have n5 := h.ncell k hk 6
  have n6 := h.ncell k hk 7
  have f4 := h.nfr k hk 5
  have f5 := h.nfr k hk 6
  have f6 := h.nfr k hk 7
  have g7 := h.gcell 7
  have g8 := h.gcell 8
  have fg7 := h.gfr 7
  have fg8 := h.gfr 8
  simp at n4 n5 n6 g7 g8
  have n0 := h.ncell k hk 1
  simp at n0
  have N0 := hid n0
  clear n0
  have hgk : gb ≠ ns[k].blk := ne_of_kind h.gate (h.nodes k hk) (by simp [kind_cells, kind_gate, nodeObj])
  have hls := list_neq_self ⟨gb, 7, none⟩ w
  by_cases hk0 : k = 0
  · have ep : prevOf ns k = none := by unfold prevOf; rw [if_pos hk0]
    rw [ep, pn_none] at n4
    have HK0 := hid hk0
    have EP := hid ep
    clear hk0 ep
    by_cases hk1 : k + 1 < ns.length
    · rw [List.getElem?_eq_getElem hk1, pn_some] at n5
      have hg1 : gb ≠ ns[k + 1].blk := ne_of_kind h.gate (h.nodes _ hk1) (by simp [kind_cells, kind_gate, nodeObj])
      have h01 := h.nodeNe hk hk1 (by omega)
      have m4 := h.ncell (k + 1) hk1 5
      have fm4 := h.nfr (k + 1) hk1 5
      simp at m4
      go_enter Try.func81, Try.ntmps81
      go_wp2
      go_region
      all_goals go_wp2
      all_goals go_end0
      all_goals exact ⟨rfl, (h.take2 k hk ⟨gb, 7, none⟩ ⟨ns[k + 1].blk, 5, none⟩ _ _ (Or.inl ⟨HK0.out, rfl⟩) (by rw [List.getElem?_eq_getElem hk1]; rfl) (Or.inr ⟨hk1, rfl⟩) (by rw [EP.out]; rfl)).drew, ((((((Tch.refl _ _).setCell (p := ⟨gb, 7, none⟩) (Or.inl (PS.gate _ _ _ _)) _).setCell (p := ⟨ns[k + 1].blk, 5, none⟩) (Or.inl (PS.node _ _ _ _ (k + 1) hk1)) _).setCell (p := ⟨ns[k].blk, 5, none⟩) (Or.inl (PS.node _ _ _ _ k hk)) _).setCell (p := ⟨ns[k].blk, 6, none⟩) (Or.inl (PS.node _ _ _ _ k hk)) _).setCell (p := ⟨ns[k].blk, 7, none⟩) (Or.inl (PS.node _ _ _ _ k hk)) _).drew, by simp only [World.cell?_drew]; exact take_cell0 N0.out ⟨gb, 7, none⟩ ⟨ns[k + 1].blk, 5, none⟩ _ _ (by simp) (by simp)⟩
    · have en : ns[k + 1]? = none := List.getElem?_eq_none (by omega)
      rw [en, pn_none] at n5
      clear en
      go_enter Try.func81, Try.ntmps81
      go_wp2
      all_goals go_end0
      all_goals exact ⟨rfl, (h.take2 k hk ⟨gb, 7, none⟩ ⟨gb, 8, none⟩ _ _ (Or.inl ⟨HK0.out, rfl⟩) (by rw [List.getElem?_eq_none (by omega)]; rfl) (Or.inl ⟨by omega, rfl⟩) (by rw [EP.out]; rfl)), ((((((Tch.refl _ _).setCell (p := ⟨gb, 7, none⟩) (Or.inl (PS.gate _ _ _ _)) _).setCell (p := ⟨gb, 8, none⟩) (Or.inl (PS.gate _ _ _ _)) _).setCell (p := ⟨ns[k].blk, 5, none⟩) (Or.inl (PS.node _ _ _ _ k hk)) _).setCell (p := ⟨ns[k].blk, 6, none⟩) (Or.inl (PS.node _ _ _ _ k hk)) _).setCell (p := ⟨ns[k].blk, 7, none⟩) (Or.inl (PS.node _ _ _ _ k hk)) _), take_cell0 N0.out ⟨gb, 7, none⟩ ⟨gb, 8, none⟩ _ _ (by simp) (by simp)⟩
  · have hk' : k - 1 < ns.length := by omega
    have ep : prevOf ns k = some ns[k - 1] := by unfold prevOf; rw [if_neg hk0, List.getElem?_eq_getElem hk']
    rw [ep, pn_some] at n4
    have HK0 := hid hk0
    have EP := hid ep
    clear ep
    have hg0 : gb ≠ ns[k - 1].blk := ne_of_kind h.gate (h.nodes _ hk') (by simp [kind_cells, kind_gate, nodeObj])
    have h00 := h.nodeNe hk hk' (by omega)
    have p5 := h.ncell (k - 1) hk' 6
    have fp5 := h.nfr (k - 1) hk' 6
    simp at p5
    clear hk0
    by_cases hk1 : k + 1 < ns.length
    · rw [List.getElem?_eq_getElem hk1, pn_some] at n5
      have hg1 : gb ≠ ns[k + 1].blk := ne_of_kind h.gate (h.nodes _ hk1) (by simp [kind_cells, kind_gate, nodeObj])
      have h01 := h.nodeNe hk hk1 (by omega)
      have h11 := h.nodeNe hk' hk1 (by omega)
      have m4 := h.ncell (k + 1) hk1 5
      have fm4 := h.nfr (k + 1) hk1 5
      simp at m4
      go_enter Try.func81, Try.ntmps81
      go_wp2
      go_region
      all_goals go_wp2
      all_goals go_region
      all_goals go_wp2
      all_goals go_end0
      all_goals exact ⟨rfl, (h.take2 k hk ⟨ns[k - 1].blk, 6, none⟩ ⟨ns[k + 1].blk, 5, none⟩ _ _ (Or.inr ⟨HK0.out, hk', rfl⟩) (by rw [List.getElem?_eq_getElem hk1]; rfl) (Or.inr ⟨hk1, rfl⟩) (by rw [EP.out]; rfl)).drew.drew, ((((((Tch.refl _ _).setCell (p := ⟨ns[k - 1].blk, 6, none⟩) (Or.inl (PS.node _ _ _ _ (k - 1) hk')) _).setCell (p := ⟨ns[k + 1].blk, 5, none⟩) (Or.inl (PS.node _ _ _ _ (k + 1) hk1)) _).setCell (p := ⟨ns[k].blk, 5, none⟩) (Or.inl (PS.node _ _ _ _ k hk)) _).setCell (p := ⟨ns[k].blk, 6, none⟩) (Or.inl (PS.node _ _ _ _ k hk)) _).setCell (p := ⟨ns[k].blk, 7, none⟩) (Or.inl (PS.node _ _ _ _ k hk)) _).drew.drew, by simp only [World.cell?_drew]; exact take_cell0 N0.out ⟨ns[k - 1].blk, 6, none⟩ ⟨ns[k + 1].blk, 5, none⟩ _ _ (by simp) (by simp)⟩
    · have en : ns[k + 1]? = none := List.getElem?_eq_none (by omega)
      rw [en, pn_none] at n5
      clear en
      go_enter Try.func81, Try.ntmps81
      go_wp2
      go_region
      all_goals go_wp2
      all_goals go_end0
      all_goals exact ⟨rfl, (h.take2 k hk ⟨ns[k - 1].blk, 6, none⟩ ⟨gb, 8, none⟩ _ _ (Or.inr ⟨HK0.out, hk', rfl⟩) (by rw [List.getElem?_eq_none (by omega)]; rfl) (Or.inl ⟨by omega, rfl⟩) (by rw [EP.out]; rfl)).drew, ((((((Tch.refl _ _).setCell (p := ⟨ns[k - 1].blk, 6, none⟩) (Or.inl (PS.node _ _ _ _ (k - 1) hk')) _).setCell (p := ⟨gb, 8, none⟩) (Or.inl (PS.gate _ _ _ _)) _).setCell (p := ⟨ns[k].blk, 5, none⟩) (Or.inl (PS.node _ _ _ _ k hk)) _).setCell (p := ⟨ns[k].blk, 6, none⟩) (Or.inl (PS.node _ _ _ _ k hk)) _).setCell (p := ⟨ns[k].blk, 7, none⟩) (Or.inl (PS.node _ _ _ _ k hk)) _).drew, by simp only [World.cell?_drew]; exact take_cell0 N0.out ⟨ns[k - 1].blk, 6, none⟩ ⟨gb, 8, none⟩ _ _ (by simp) (by simp)⟩
end

end Go.Proofs.Ytekjgjhhjlcoaaa
