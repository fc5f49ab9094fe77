import Derived.Test.YtekjgjhhjlcoaaaPrgG
namespace Go.Proofs.Ytekjgjhhjlcoaaa
open Go.RowKit Go.Conc

theorem heap_al (w : World) (o : Obj) (k : Nat) : (w.alloc o).heap[k]? = if k = w.heap.size then some o else w.heap[k]? := by
  show (w.heap.push o)[k]? = _
  rw [Array.getElem?_push]
theorem size_set (w : World) (a : Addr) (v : Value) : (w.setCell a v).heap.size = w.heap.size := by simp [World.setCell]

section
variable {w w' : World} {gb : Nat} {q : Gn} {tv : Value} {rs : List Rc} {ns : List Nd}

/-- A node more at the end: what the stores must have left. -/
theorem PH.append (h : PH w gb q tv rs ns) (n : Nd) (hn : w.heap.size ≤ n.blk)
    (F1 : ∀ x, x < w.heap.size → x ≠ gb → (∀ j (hj : j < ns.length), j + 1 = ns.length → x ≠ ns[j].blk) → w'.heap[x]? = w.heap[x]?)
    (F2 : w'.heap[gb]? = some (gateObj q.rd q.mu q.room q.pass q.time q.held tv (if ns = [] then pn (some n) else pn ns.head?) (pn (some n))))
    (F3 : ∀ j (hj : j < ns.length), j + 1 = ns.length → w'.heap[ns[j].blk]? = some (.cells #[.int .i64 ns[j].num, pr ns[j].rcd, .int .i64 ns[j].band, .int .i64 ns[j].count, .int .i64 ns[j].till,
      pn (prevOf ns j), pn (some n), .pointer (some ⟨gb, 7, none⟩)] 110 (0, 0)))
    (F4 : w'.heap[n.blk]? = some (.cells #[.int .i64 n.num, pr n.rcd, .int .i64 n.band, .int .i64 n.count, .int .i64 n.till, pn ns.getLast?, .pointer none, .pointer (some ⟨gb, 7, none⟩)] 110 (0, 0))) :
    PH w' gb q tv rs (ns ++ [n]) := by
  have other : ∀ {x : Nat} {o : Obj}, w.heap[x]? = some o → kindOf o ≠ kindOf (gateObj none 0 0 0 0 0 tv tv tv) → kindOf o ≠ kindOf (nodeObj gb ns 0 ⟨0, 0, 0, 0, 0, 0⟩) → w'.heap[x]? = w.heap[x]? := by
    intro x o hh h1 h2
    refine F1 x (lt_of_block hh) (ne_of_kind hh h.gate (by simpa [kind_cells, kind_chan, kind_gate] using h1)) fun j hj _ => ne_of_kind hh (h.nodes j hj) (by simpa [kind_cells, kind_chan, nodeObj] using h2)
  refine ⟨?_, ownsRow_keep h.row fun x hx => ?_, fun r hr => ?_, fun r hr c s hc => ?_, fun i hi => ?_, h.nd1, ?_, h.nd3⟩
  · rw [F2]
    have e1 : (ns ++ [n]).getLast? = some n := by simp
    have e2 : pn (ns ++ [n]).head? = if ns = [] then pn (some n) else pn ns.head? := by cases ns <;> simp
    rw [e1, e2]
  · obtain ⟨cur, hh⟩ := h.rowBlk hx
    exact other hh (by simp [kind_cells, kind_gate]) (by simp [kind_cells, nodeObj])
  · exact (other (h.recs r hr) (by simp [kind_cells, kind_gate, recObj]) (by simp [kind_cells, nodeObj, recObj])).trans (h.recs r hr)
  · have hh := h.chans r hr c s hc
    exact (other hh (by simp [kind_chan, kind_gate]) (by simp [kind_cells, kind_chan, nodeObj])).trans hh
  · have hi' : i < ns.length + 1 := by simpa using hi
    by_cases e : i < ns.length
    · have eg : (ns ++ [n])[i] = ns[i] := List.getElem_append_left e
      have ep : prevOf (ns ++ [n]) i = prevOf ns i := by
        unfold prevOf
        split
        · rfl
        · rw [List.getElem?_append_left (by omega)]
      rw [eg]
      unfold nodeObj
      rw [ep]
      by_cases e2 : i + 1 = ns.length
      · rw [F3 i e e2]
        have en : (ns ++ [n])[i + 1]? = some n := by rw [e2]; simp
        rw [en]
      · have en : (ns ++ [n])[i + 1]? = ns[i + 1]? := List.getElem?_append_left (by omega)
        rw [en]
        have hh := h.nodes i e
        refine (F1 _ (lt_of_block hh) (fun x => ne_of_kind h.gate hh (by simp [kind_cells, kind_gate, nodeObj]) x.symm) fun j hj hj2 => h.nodeNe e hj (by omega)).trans hh
    · obtain rfl : i = ns.length := by omega
      have eg : (ns ++ [n])[ns.length] = n := by simp
      have en : (ns ++ [n])[ns.length + 1]? = none := List.getElem?_eq_none (by simp)
      have ep : prevOf (ns ++ [n]) ns.length = ns.getLast? := by
        unfold prevOf
        rw [List.getLast?_eq_getElem?]
        split
        · rename_i e0
          rw [e0, List.getElem?_eq_none (by omega)]
        · rw [List.getElem?_append_left (by omega)]
      rw [eg]
      unfold nodeObj
      rw [en, ep, F4]
      rfl
  · rw [List.map_append]
    refine List.nodup_append.2 ⟨h.nd2, by simp, ?_⟩
    intro a ha b hb
    simp at hb
    subst hb
    obtain ⟨m, hm, rfl⟩ := List.mem_map.1 ha
    obtain ⟨j, hj, _, hh⟩ := h.node_at hm
    have := lt_of_block hh
    omega

attribute [local go_sem] alloc_drewN setCell_drewN

set_option maxRecDepth 20000 in
set_option maxHeartbeats 1000000 in
theorem append_any (h : PH w gb q tv rs ns) (num : Int) (rcd : Nat) (band count till : Int) :
    Calls Try.prog 78 #[.pointer (some ⟨gb, 7, none⟩), .agg #[.int .i64 num, .pointer (some ⟨rcd, 0, none⟩), .int .i64 band, .int .i64 count, .int .i64 till]] w fun e w' => ∃ v nb, e = .returned v ∧ w.heap.size ≤ nb ∧ PH w' gb q tv rs (ns ++ [⟨nb, num, rcd, band, count, till⟩]) ∧ Tch (PS gb tv rs ns) w w' := by
  have g7 := h.gcell 7
  have g8 := h.gcell 8
  have fg7 := h.gfr 7
  have fg8 := h.gfr 8
  have hgl := lt_of_block h.gate
  simp at g7 g8
  by_cases he : ns = []
  · subst he
    simp [pn_none] at g8
    go_enter Try.func78, Try.ntmps78
    go_wp2
    go_region
    all_goals go_wp2
    all_goals go_ret
    all_goals
      refine ⟨_, w.heap.size + 1, rfl, by omega, ?_, ?_⟩
      · refine PH.drew (h.append ⟨w.heap.size + 1, num, rcd, band, count, till⟩ (by show w.heap.size ≤ w.heap.size + 1; omega) (fun x h1 h2 _ => ?_) ?_ (fun j hj => absurd hj (by simp)) ?_)
        · rw [heap_al, if_neg (by simp; omega), heap_al, if_neg (by simp; omega), heap_put, if_neg h2, heap_put, if_neg h2]
        · rw [heap_al, if_neg (by simp; omega), heap_al, if_neg (by simp; omega), heap_put, if_pos rfl, heap_put, if_pos rfl, h.gate]
          simp only [Option.map_some, put_gate7, put_gate8, if_true]
          rfl
        · rw [heap_al, if_pos (by simp)]
          rfl
      · exact ((((Tch.refl _ _).setCell (p := ⟨gb, 7, none⟩) (Or.inl (PS.gate _ _ _ _)) _).setCell (p := ⟨gb, 8, none⟩) (Or.inl (PS.gate _ _ _ _)) _).alloc _).alloc _ |>.drew
  · have hl : 0 < ns.length := List.length_pos_iff.2 he
    obtain ⟨m, hm⟩ : ∃ m, m + 1 = ns.length := ⟨ns.length - 1, by omega⟩
    have hml : m < ns.length := by omega
    have elast : ns.getLast? = some ns[m] := by rw [List.getLast?_eq_getElem?, ← hm]; simp
    rw [elast, pn_some] at g8
    have m5 := h.ncell m hml 6
    have fm5 := h.nfr m hml 6
    simp at m5
    have hmb := lt_of_block (h.nodes m hml)
    have hgm : gb ≠ ns[m].blk := ne_of_kind h.gate (h.nodes m hml) (by simp [kind_cells, kind_gate, nodeObj])
    have HM := hid hm
    have EL := hid elast
    clear hm elast
    go_enter Try.func78, Try.ntmps78
    go_wp2
    go_region
    all_goals go_wp2
    all_goals go_ret
    all_goals
      refine ⟨_, w.heap.size + 1, rfl, by omega, ?_, ?_⟩
      · refine PH.drew (h.append ⟨w.heap.size + 1, num, rcd, band, count, till⟩ (by show w.heap.size ≤ w.heap.size + 1; omega) (fun x h1 h2 h3 => ?_) ?_ (fun j hj hj2 => ?_) ?_)
        · rw [heap_al, if_neg (by simp; omega), heap_al, if_neg (by simp; omega), heap_put, if_neg h2, heap_put, if_neg (h3 m hml HM.out)]
        · rw [heap_al, if_neg (by simp; omega), heap_al, if_neg (by simp; omega), heap_put, if_pos rfl, heap_put, if_neg hgm, h.gate, if_neg he]
          simp only [Option.map_some, put_gate8]
          rfl
        · have ej : j = m := by have := HM.out; omega
          subst ej
          rw [heap_al, if_neg (by simp; omega), heap_al, if_neg (by simp; omega), heap_put, if_neg (fun x => hgm x.symm), heap_put, if_pos rfl, h.nodes j hj]
          rfl
        · rw [heap_al, if_pos (by simp), EL.out]
          rfl
      · exact ((((Tch.refl _ _).setCell (p := ⟨ns[m].blk, 6, none⟩) (Or.inl (PS.node _ _ _ _ m hml)) _).setCell (p := ⟨gb, 8, none⟩) (Or.inl (PS.gate _ _ _ _)) _).alloc _).alloc _ |>.drew
end

end Go.Proofs.Ytekjgjhhjlcoaaa
