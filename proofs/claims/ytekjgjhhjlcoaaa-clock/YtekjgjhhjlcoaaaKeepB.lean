import Derived.Test.YtekjgjhhjlcoaaaKeepA
namespace Go.Proofs.Ytekjgjhhjlcoaaa
open Go.RowKit Go.Conc

/-- What is known of a ticket: its three cells. -/
def snVals (t : Tg.Sn) : List Value := [.int .i64 t.weight, .int .i64 t.state, .int .i64 t.passed]
def snCells : List Tg.Sn → List Value
  | [] => []
  | t :: r => snVals t ++ snCells r

theorem snCells_length (l : List Tg.Sn) : (snCells l).length = l.length * 3 := by
  induction l with
  | nil => rfl
  | cons t r ih => simp only [snCells, List.length_append, ih, List.length_cons]; simp [snVals]; omega
theorem snCells_append (a b : List Tg.Sn) : snCells (a ++ b) = snCells a ++ snCells b := by
  induction a with
  | nil => rfl
  | cons t r ih => simp [snCells, ih]
theorem snCells_at (l : List Tg.Sn) (k f : Nat) (hk : k < l.length) (hf : f < 3) : (snCells l)[k * 3 + f]? = (snVals l[k])[f]? := by
  induction l generalizing k with
  | nil => simp at hk
  | cons t r ih =>
    cases k with
    | zero =>
      simp only [snCells, Nat.zero_mul, Nat.zero_add, List.getElem_cons_zero]
      rw [List.getElem?_append_left (by simp [snVals]; omega)]
    | succ k =>
      simp only [snCells, List.getElem_cons_succ]
      rw [List.getElem?_append_right (by simp [snVals]; omega)]
      rw [← ih k (by simpa using hk)]
      congr 1
      simp [snVals]; omega
theorem snCells_modify (l : List Tg.Sn) (k f : Nat) (u : Tg.Sn → Tg.Sn) (x : Value) (hk : k < l.length) (hf : f < 3) (hu : snVals (u l[k]) = (snVals l[k]).set f x) : snCells (l.modify k u) = (snCells l).set (k * 3 + f) x := by
  induction l generalizing k with
  | nil => simp at hk
  | cons t r ih =>
    cases k with
    | zero =>
      simp only [List.getElem_cons_zero] at hu
      simp only [List.modify_zero_cons, snCells, Nat.zero_mul, Nat.zero_add, hu]
      rw [List.set_append_left _ _ (by simp [snVals]; omega)]
    | succ k =>
      simp only [List.getElem_cons_succ] at hu
      simp only [List.modify_succ_cons, snCells]
      rw [ih k (by simpa using hk) hu, List.set_append_right _ _ (by simp [snVals]; omega)]
      congr 2
      simp [snVals]; omega

/-- The law's log in memory: at tb; its gate, its room, what is known of the tickets. Below N nothing of it lies, and nothing has changed there since w0. -/
structure KL (N : Nat) (w0 w : World) (tb gb : Nat) (g : Tg.Gt) (S : Nat → Prop) (room : Int) (lv : Value) (s : List Tg.Sn) : Prop where
  blk : w.heap[tb]? = some (.cells #[.pointer (some ⟨gb, 0, none⟩), .int .i64 room, lv] 37 (0, 0))
  row : w.ownsRow 0 39 3 lv s.length (snCells s)
  ga : GA w gb g S
  tS : ¬ S tb
  rS : ∀ k, lv.ownBlock = some k → ¬ S k
  low : N ≤ tb
  rlow : ∀ k, lv.ownBlock = some k → N ≤ k
  slow : ∀ k, S k → N ≤ k
  bel : Below N w0 w

section
variable {N : Nat} {w0 w w' : World} {tb gb : Nat} {g g' : Tg.Gt} {S S' : Nat → Prop} {room : Int} {lv lv' : Value} {s : List Tg.Sn}

theorem KL.c0 (h : KL N w0 w tb gb g S room lv s) : w.cell? ⟨tb, 0, none⟩ = some (.pointer (some ⟨gb, 0, none⟩)) := by simp [World.cell?, h.blk]
theorem KL.c1 (h : KL N w0 w tb gb g S room lv s) : w.cell? ⟨tb, 1, none⟩ = some (.int .i64 room) := by simp [World.cell?, h.blk]
theorem KL.c2 (h : KL N w0 w tb gb g S room lv s) : w.cell? ⟨tb, 2, none⟩ = some lv := by simp [World.cell?, h.blk]
theorem KL.fr (h : KL N w0 w tb gb g S room lv s) (o : Nat) : w.frozen? ⟨tb, o, none⟩ = false := by simp [World.frozen?, h.blk]
theorem KL.tlt (h : KL N w0 w tb gb g S room lv s) : tb < w.heap.size := lt_of_block h.blk
theorem KL.rowBlk (h : KL N w0 w tb gb g S room lv s) {k : Nat} (hk : lv.ownBlock = some k) : ∃ cur, w.heap[k]? = some (.cells cur 39 (0, 0)) := by
  rcases h.row.2 with ⟨e, _⟩ | ⟨g', cap, cur, e, _, hh, _⟩
  · rw [e] at hk; simp [Value.ownBlock] at hk
  · rw [e] at hk; simp [Value.ownBlock] at hk; subst hk; exact ⟨cur, hh⟩
theorem KL.ne (h : KL N w0 w tb gb g S room lv s) : lv.ownBlock ≠ some tb := by
  intro e
  obtain ⟨cur, hh⟩ := h.rowBlk e
  have := h.blk
  rw [hh] at this
  simp at this
theorem KL.form (h : KL N w0 w tb gb g S room lv s) : ∃ ao cap, lv = .slice ao s.length cap ∧ s.length ≤ 9223372036854775807 ∧ ∀ k, k < s.length → ∃ ab, ao = some ⟨ab, 0, none⟩ := by
  rcases h.row.2 with ⟨rfl, hn⟩ | ⟨ab, cap, cur, rfl, _, _, hl, hm, _⟩
  · exact ⟨none, 0, by rw [hn], by omega, fun k hk => absurd hk (by omega)⟩
  · exact ⟨_, cap, rfl, by unfold maxLen at hm; omega, fun k hk => ⟨ab, rfl⟩⟩
theorem KL.at (h : KL N w0 w tb gb g S room lv s) {ab n cap : Nat} (hv : lv = .slice (some ⟨ab, 0, none⟩) n cap) (k f : Nat) (hk : k < s.length) (hf : f < 3) : w.cell? ⟨ab, k * 3 + f, none⟩ = (snVals s[k])[f]? := by
  subst hv
  have hx := h.row.cells (g := ab) rfl (k * 3 + f)
  rw [snCells_at _ _ _ hk hf] at hx
  have he : (snVals s[k])[f]? = some ((snVals s[k])[f]'(by simp [snVals]; omega)) := List.getElem?_eq_getElem _
  have hy := hx _ he
  rw [Addr.add_lit] at hy
  rw [he]
  simpa using hy
theorem KL.frow (h : KL N w0 w tb gb g S room lv s) {ab n cap : Nat} (hv : lv = .slice (some ⟨ab, 0, none⟩) n cap) (j : Nat) : w.frozen? ⟨ab, j, none⟩ = false := by
  subst hv
  rcases h.row.2 with ⟨h', _⟩ | ⟨g', cap', cur, h', _, hg, _⟩
  · simp at h'
  · simp only [Value.slice.injEq, Option.some.injEq, Addr.mk.injEq, and_true] at h'
    obtain ⟨rfl, _⟩ := h'
    exact frozen_of_row w _ j cur _ hg

/-- A store into what is known of a ticket. -/
theorem KL.put (h : KL N w0 w tb gb g S room lv s) {ab n cap : Nat} (hv : lv = .slice (some ⟨ab, 0, none⟩) n cap) (k f : Nat) (u : Tg.Sn → Tg.Sn) (x : Value) (hk : k < s.length) (hf : f < 3)
    (hu : snVals (u s[k]) = (snVals s[k]).set f x) : KL N w0 (w.setCell ⟨ab, k * 3 + f, none⟩ x) tb gb g S room lv (s.modify k u) := by
  have hob : lv.ownBlock = some ab := by subst hv; rfl
  have hne : tb ≠ ab := fun e => h.ne (by rw [hob, e])
  have hnS := h.rS ab hob
  refine ⟨?_, ?_, h.ga.keep fun k' hk' => Below.heap_setCell _ _ _ _ (fun e => hnS (by simp at e; subst e; exact hk')), h.tS, h.rS, h.low, h.rlow, h.slow, h.bel.setCell (p := ⟨ab, k * 3 + f, none⟩) (h.rlow ab hob) _⟩
  · rw [Below.heap_setCell _ _ _ _ hne]; exact h.blk
  · have hr := h.row
    obtain ⟨ao', cap', hv', _⟩ := h.form
    obtain rfl : n = s.length := by rw [hv] at hv'; simp at hv'; exact hv'.2.1
    subst hv
    have := (hr.stored (k * 3 + f) x).1
    rw [← snCells_modify s k f u x hk hf hu] at this
    simpa using this

theorem KL.setRoom (h : KL N w0 w tb gb g S room lv s) (x : Int) : KL N w0 (w.setCell ⟨tb, 1, none⟩ (.int .i64 x)) tb gb g S x lv s :=
  ⟨heap_setCell_same w tb 1 _ _ _ h.blk, ownsRow_setCell_other h.row h.ne _, h.ga.keep fun k' hk' => Below.heap_setCell _ _ _ _ (fun e => h.tS (by simp at e; subst e; exact hk')), h.tS, h.rS, h.low, h.rlow, h.slow, h.bel.setCell (p := ⟨tb, 1, none⟩) h.low _⟩

/-- Nothing that was there has changed. -/
theorem KL.grow (h : KL N w0 w tb gb g S room lv s) (hN : N ≤ w.heap.size) (ht : Tch (fun _ => False) w w') : KL N w0 w' tb gb g S room lv s := by
  have keep : ∀ k, k < w.heap.size → w'.heap[k]? = w.heap[k]? := fun k hk => ht.block k hk (fun x => x)
  refine ⟨(keep tb h.tlt).trans h.blk, ownsRow_keep h.row fun k hk => ?_, h.ga.keep fun k hk => keep k (h.ga.lt k hk), h.tS, h.rS, h.low, h.rlow, h.slow, ?_⟩
  · obtain ⟨cur, hh⟩ := h.rowBlk hk; exact keep k (lt_of_block hh)
  · exact h.bel.trans ⟨ht.os, ht.tape, ht.output, ht.size, fun k hk => keep k (by omega)⟩

theorem KL.drewN (h : KL N w0 w tb gb g S room lv s) (n : Nat) : KL N w0 (w.drewN n) tb gb g S room lv s :=
  ⟨h.blk, ownsRow_keep h.row fun _ _ => rfl, h.ga.drewN n, h.tS, h.rS, h.low, h.rlow, h.slow, ⟨h.bel.os, h.bel.tape, h.bel.output, h.bel.size, h.bel.block⟩⟩

/-- The gate has changed, and it alone. -/
theorem KL.gate (h : KL N w0 w tb gb g S room lv s) (hN : N ≤ w.heap.size) (hg : GA w' gb g' S') (ht : Tch S w w') (hs : ∀ k, S' k → S k ∨ w.heap.size ≤ k) : KL N w0 w' tb gb g' S' room lv s := by
  have hrl : ∀ k, lv.ownBlock = some k → k < w.heap.size := fun k hk => by obtain ⟨cur, hh⟩ := h.rowBlk hk; exact lt_of_block hh
  refine ⟨(ht.block tb h.tlt h.tS).trans h.blk, ownsRow_keep h.row fun k hk => ht.block k (hrl k hk) (h.rS k hk), hg, fun x => ?_, fun k hk x => ?_, h.low, h.rlow, fun k hk => ?_, ?_⟩
  · rcases hs tb x with y | y
    · exact h.tS y
    · have := h.tlt; omega
  · rcases hs k x with y | y
    · exact h.rS k hk y
    · have := hrl k hk; omega
  · rcases hs k hk with y | y
    · exact h.slow k y
    · omega
  · exact h.bel.trans ⟨ht.os, ht.tape, ht.output, ht.size, fun k hk => ht.block k (by omega) fun x => by have := h.slow k x; omega⟩

theorem KL.gs (h : KL N w0 w tb gb g S room lv s) (hN : N ≤ w.heap.size) (hg : GS w S gb g' w') : ∃ S', KL N w0 w' tb gb g' S' room lv s ∧ w.heap.size ≤ w'.heap.size := by
  obtain ⟨S', h1, h2, h3⟩ := hg
  exact ⟨S', h.gate hN h1 h2 h3, h2.size⟩
theorem KL.same (h : KL N w0 w tb gb g S room lv s) (hN : N ≤ w.heap.size) (hg : GA w' gb g S) (ht : Tch S w w') : KL N w0 w' tb gb g S room lv s := h.gate hN hg ht fun _ x => Or.inl x

/-- One ticket more is known. -/
theorem KL.app (h : KL N w0 w tb gb g S room lv s) (hN : N ≤ w.heap.size) (t : Tg.Sn) (ho : w'.ownsRow 0 39 3 lv' (s.length + 1) (snCells s ++ snVals t)) (hg : w.grownBy w' lv.ownBlock) (hm : Moved w lv lv') :
    w'.cell? ⟨tb, 2, none⟩ = some lv ∧ w'.frozen? ⟨tb, 2, none⟩ = false ∧ KL N w0 (w'.setCell ⟨tb, 2, none⟩ lv') tb gb g S room lv' (s ++ [t]) := by
  have keep : ∀ k, k < w.heap.size → lv.ownBlock ≠ some k → w'.heap[k]? = w.heap[k]? := fun k hk hn => hg.block k hk fun e => hn e.symm
  have hb : w'.heap[tb]? = some (.cells #[.pointer (some ⟨gb, 0, none⟩), .int .i64 room, lv] 37 (0, 0)) := (keep tb h.tlt h.ne).trans h.blk
  have hne : lv'.ownBlock ≠ some tb := by
    intro e
    rcases ho.2 with ⟨rfl, _⟩ | ⟨ab, cap, cur, rfl, _, hh, _⟩
    · simp [Value.ownBlock] at e
    · simp [Value.ownBlock] at e; subst e; rw [hh] at hb; simp at hb
  have old : ∀ k, lv'.ownBlock = some k → lv.ownBlock = some k ∨ w.heap.size ≤ k := fun k hk => by
    rcases hm with y | ⟨j, y, z⟩
    · exact Or.inl (by rw [← y]; exact hk)
    · rw [y] at hk; simp at hk; exact Or.inr (by omega)
  refine ⟨by simp [World.cell?, hb], by simp [World.frozen?, hb], heap_setCell_same w' tb 2 _ _ _ hb, ?_, ?_, h.tS, fun k hk x => ?_, h.low, fun k hk => ?_, h.slow, ?_⟩
  · have := ownsRow_setCell_other ho (a := ⟨tb, 2, none⟩) hne lv'
    have e : snCells (s ++ [t]) = snCells s ++ snVals t := by rw [snCells_append]; simp [snCells]
    simpa [e] using this
  · refine h.ga.keep fun k hk => ?_
    rw [Below.heap_setCell _ _ _ _ (fun e => h.tS (by simp at e; subst e; exact hk))]
    exact keep k (h.ga.lt k hk) fun e => h.rS k e hk
  · rcases old k hk with y | y
    · exact h.rS k y x
    · have := h.ga.lt k x; omega
  · rcases old k hk with y | y
    · exact h.rlow k y
    · omega
  · exact (h.bel.grown hg hN h.rlow).setCell (p := ⟨tb, 2, none⟩) h.low _
end

theorem Try.infoSeen : (Try.prog.info? 39).map (fun i => (i.zero, i.size, i.bytes)) = some (some (.agg #[.int .i64 0, .int .i64 0, .int .i64 0]), 3, 24) := by kernel_rfl

set_option maxHeartbeats 400000 in
theorem begun_any (N : Nat) (w0 w : World) (hN : N ≤ w.heap.size) (hb : Below N w0 w) (room pass : Int) (h1 : 0 ≤ room ∧ room ≤ 1000) (h2 : 0 ≤ pass ∧ pass ≤ 20) :
    Calls Try.prog 13 #[.int .i64 room, .int .i64 pass] w fun e w' => ∃ tb gb S, e = .returned (.pointer (some ⟨tb, 0, none⟩)) ∧ KL N w0 w' tb gb (Tg.fresh room pass) S room (.slice none 0 0) [] ∧ w.heap.size ≤ w'.heap.size := by
  have HN := ga_new room pass h1 h2 w
  clear h1 h2
  go_enter Try.func13, Try.ntmps13
  go_wp2_with (go_at_call 34; refine HN.mono ?_; rintro e w1 ⟨rfl, S, hg, ht, hs⟩)
  go_ret
  have hsz := ht.size
  refine ⟨w1.heap.size, w.heap.size, S, rfl, ⟨heap_alloc_new _ _, World.ownsRow_nil _ _ _ _, hg.alloc _, fun x => ?_, fun k hk => by simp [Value.ownBlock] at hk, by omega, fun k hk => by simp [Value.ownBlock] at hk, fun k hk => by have := hs k hk; omega, ?_⟩, by simp; omega⟩
  · have := hg.lt _ x; omega
  · have ht2 := ht.alloc (.cells #[.pointer (some ⟨w.heap.size, 0, none⟩), .int .i64 room, .slice none 0 0] 37)
    exact hb.trans ⟨ht2.os, ht2.tape, ht2.output, ht2.size, fun k hk => ht2.block k (by omega) (fun x => x)⟩

end Go.Proofs.Ytekjgjhhjlcoaaa
