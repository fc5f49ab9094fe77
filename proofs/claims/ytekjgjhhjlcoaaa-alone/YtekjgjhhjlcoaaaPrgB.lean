import Derived.Test.YtekjgjhhjlcoaaaPrgA
namespace Go.Proofs.Ytekjgjhhjlcoaaa
open Go.RowKit Go.Conc

/-- What is kept of a ticket: its record's block, what stands in it, its channel and whether that is closed. -/
structure Rc where
  blk : Nat
  weight : Int
  stands : Int
  ch : Option (Nat × Bool)

/-- A node of the list of those that wait. -/
structure Nd where
  blk : Nat
  num : Int
  rcd : Nat
  band : Int
  count : Int
  till : Int

def pn (o : Option Nd) : Value := .pointer (o.map fun n => ⟨n.blk, 0, none⟩)
def pr (b : Nat) : Value := .pointer (some ⟨b, 0, none⟩)
def prevOf (ns : List Nd) (j : Nat) : Option Nd := if j = 0 then none else ns[j - 1]?
def recObj (r : Rc) : Obj := .cells #[.int .i64 r.weight, .int .i64 r.stands, .chan (r.ch.map (·.1))] 86 (0, 0)
def nodeObj (gb : Nat) (ns : List Nd) (j : Nat) (n : Nd) : Obj :=
  .cells #[.int .i64 n.num, pr n.rcd, .int .i64 n.band, .int .i64 n.count, .int .i64 n.till, pn (prevOf ns j), pn ns[j + 1]?, .pointer (some ⟨gb, 7, none⟩)] 110 (0, 0)
/-- A gate's block; rd: a hall's readers, where the gate is one that a hall embeds. -/
def gateObj (rd : Option Int) (mu room pass time held : Int) (tv first last : Value) : Obj := match rd with
  | none => .cells #[.int .i32 mu, .int .u32 0, .int .i64 room, .int .i64 pass, .int .i64 time, .int .i64 held, tv, first, last] 68 (0, 0)
  | some n => .cells #[.int .i32 mu, .int .u32 0, .int .i64 room, .int .i64 pass, .int .i64 time, .int .i64 held, tv, first, last, .int .i64 n] 70 (0, 0)

/-- The numbers of a gate. -/
structure Gn where
  rd : Option Int
  mu : Int
  room : Int
  pass : Int
  time : Int
  held : Int

/-- A gate of the program in memory. -/
structure PH (w : World) (gb : Nat) (q : Gn) (tv : Value) (rs : List Rc) (ns : List Nd) : Prop where
  gate : w.heap[gb]? = some (gateObj q.rd q.mu q.room q.pass q.time q.held tv (pn ns.head?) (pn ns.getLast?))
  row : w.ownsRow 0 83 1 tv rs.length (rs.map fun r => pr r.blk)
  recs : ∀ r ∈ rs, w.heap[r.blk]? = some (recObj r)
  chans : ∀ r ∈ rs, ∀ c s, r.ch = some (c, s) → ChanAt w c s
  nodes : ∀ j (hj : j < ns.length), w.heap[ns[j].blk]? = some (nodeObj gb ns j ns[j])
  nd1 : (rs.map (·.blk)).Nodup
  nd2 : (ns.map (·.blk)).Nodup
  nd3 : ∀ i j (hi : i < rs.length) (hj : j < rs.length), i ≠ j → ∀ c s c' s', rs[i].ch = some (c, s) → rs[j].ch = some (c', s') → c ≠ c'

/-- The blocks that it is made of. -/
def PS (gb : Nat) (tv : Value) (rs : List Rc) (ns : List Nd) (k : Nat) : Prop :=
  k = gb ∨ tv.ownBlock = some k ∨ (∃ r ∈ rs, k = r.blk) ∨ (∃ r ∈ rs, ∃ c s, r.ch = some (c, s) ∧ k = c) ∨ ∃ n ∈ ns, k = n.blk

/-- What kind of block it is. -/
def kindOf : Obj → Nat
  | .cells _ t _ => (if t = 70 then 68 else t) + 1
  | _ => 0

theorem kind_cells (c : Array Value) (t : TypeId) (f : Nat × Nat) : kindOf (.cells c t f) = (if t = 70 then 68 else t) + 1 := rfl
theorem kind_chan (a : Nat) (b : Array Value) (c : Bool) (d e : Nat) (f : Bool) : kindOf (.chan a b c d e f) = 0 := rfl
theorem kind_gate (rd : Option Int) (mu room pass time held : Int) (tv first last : Value) : kindOf (gateObj rd mu room pass time held tv first last) = 68 + 1 := by
  cases rd <;> rfl

theorem ne_of_kind {w : World} {a b : Nat} {o p : Obj} (ha : w.heap[a]? = some o) (hb : w.heap[b]? = some p) (h : kindOf o ≠ kindOf p) : a ≠ b := by
  rintro rfl
  rw [ha] at hb
  simp at hb
  exact h (by rw [hb])

section
variable {w w' : World} {gb : Nat} {q : Gn} {tv : Value} {rs : List Rc} {ns : List Nd}

theorem PH.rowBlk (h : PH w gb q tv rs ns) {k : Nat} (hk : tv.ownBlock = some k) : ∃ cur, w.heap[k]? = some (.cells cur 83 (0, 0)) := by
  rcases h.row.2 with ⟨rfl, _⟩ | ⟨g', cap, cur, rfl, _, hh, _⟩
  · simp [Value.ownBlock] at hk
  · simp [Value.ownBlock] at hk; subst hk; exact ⟨cur, hh⟩

theorem PH.node_at (h : PH w gb q tv rs ns) {n : Nd} (hn : n ∈ ns) : ∃ j, ∃ hj : j < ns.length, ns[j] = n ∧ w.heap[n.blk]? = some (nodeObj gb ns j n) := by
  obtain ⟨j, hj, rfl⟩ := List.getElem_of_mem hn
  exact ⟨j, hj, rfl, h.nodes j hj⟩

theorem PH.lt (h : PH w gb q tv rs ns) : ∀ k, PS gb tv rs ns k → k < w.heap.size := by
  intro k hk
  rcases hk with rfl | hk | ⟨r, hr, rfl⟩ | ⟨r, hr, c, s, hc, rfl⟩ | ⟨n, hn, rfl⟩
  · exact lt_of_block h.gate
  · obtain ⟨cur, hh⟩ := h.rowBlk hk; exact lt_of_block hh
  · exact lt_of_block (h.recs r hr)
  · exact lt_of_block (h.chans r hr k s hc)
  · obtain ⟨j, hj, _, hh⟩ := h.node_at hn; exact lt_of_block hh

theorem ownsRow_keep {w w' : World} {base : Nat} {e : TypeId} {size : Nat} {v : Value} {n : Nat} {xs : List Value} (h : w.ownsRow base e size v n xs) (hs : ∀ k, v.ownBlock = some k → w'.heap[k]? = w.heap[k]?) : w'.ownsRow base e size v n xs := by
  refine ⟨h.1, ?_⟩
  rcases h.2 with hn | ⟨ab, cap, cur, rfl, hb, hh, r⟩
  · exact Or.inl hn
  · exact Or.inr ⟨ab, cap, cur, rfl, hb, (hs ab rfl).trans hh, r⟩

theorem PH.keep (h : PH w gb q tv rs ns) (hs : ∀ k, PS gb tv rs ns k → w'.heap[k]? = w.heap[k]?) : PH w' gb q tv rs ns :=
  ⟨(hs gb (Or.inl rfl)).trans h.gate, ownsRow_keep h.row fun k hk => hs k (Or.inr (Or.inl hk)),
    fun r hr => (hs r.blk (Or.inr (Or.inr (Or.inl ⟨r, hr, rfl⟩)))).trans (h.recs r hr),
    fun r hr c s hc => (hs c (Or.inr (Or.inr (Or.inr (Or.inl ⟨r, hr, c, s, hc, rfl⟩))))).trans (h.chans r hr c s hc),
    fun j hj => (hs ns[j].blk (Or.inr (Or.inr (Or.inr (Or.inr ⟨ns[j], List.getElem_mem hj, rfl⟩))))).trans (h.nodes j hj), h.nd1, h.nd2, h.nd3⟩

theorem PH.drewN (h : PH w gb q tv rs ns) (n : Nat) : PH (w.drewN n) gb q tv rs ns := h.keep fun _ _ => rfl
theorem PH.drew (h : PH w gb q tv rs ns) : PH w.drew gb q tv rs ns := h.keep fun _ _ => rfl
theorem PH.alloc (h : PH w gb q tv rs ns) (o : Obj) : PH (w.alloc o) gb q tv rs ns := h.keep fun k hk => Below.heap_alloc _ _ _ (h.lt k hk)
theorem PH.tch {S : Nat → Prop} (h : PH w gb q tv rs ns) (ht : Tch S w w') (hs : ∀ k, PS gb tv rs ns k → ¬ S k) : PH w' gb q tv rs ns :=
  h.keep fun k hk => ht.block k (h.lt k hk) (hs k hk)

/-- The gate's own block, and it alone, has changed. -/
theorem PH.gateSet (h : PH w gb q tv rs ns) {q' : Gn} (hk : ∀ k, k ≠ gb → w'.heap[k]? = w.heap[k]?) (hg : w'.heap[gb]? = some (gateObj q'.rd q'.mu q'.room q'.pass q'.time q'.held tv (pn ns.head?) (pn ns.getLast?))) : PH w' gb q' tv rs ns := by
  refine ⟨hg, ownsRow_keep h.row fun k hk' => hk k ?_, fun r hr => (hk _ ?_).trans (h.recs r hr), fun r hr c s hc => (hk _ ?_).trans (h.chans r hr c s hc), fun j hj => (hk _ ?_).trans (h.nodes j hj), h.nd1, h.nd2, h.nd3⟩
  · obtain ⟨cur, hh⟩ := h.rowBlk hk'; exact ne_of_kind hh h.gate (by simp [kind_cells, kind_gate])
  · exact ne_of_kind (h.recs r hr) h.gate (by simp [kind_cells, kind_gate, recObj])
  · exact ne_of_kind (h.chans r hr c s hc) h.gate (by simp [kind_chan, kind_gate])
  · exact ne_of_kind (h.nodes j hj) h.gate (by simp [kind_cells, kind_gate, nodeObj])

theorem gate_cell {rd : Option Int} {mu room pass time held : Int} {fi la : Value} (hb : w.heap[gb]? = some (gateObj rd mu room pass time held tv fi la)) (o : Nat) (ho : o < 9) : w.cell? ⟨gb, o, none⟩ = (#[.int .i32 mu, .int .u32 0, .int .i64 room, .int .i64 pass, .int .i64 time, .int .i64 held, tv, fi, la] : Array Value)[o]? := by
  cases rd with
  | none => simp [World.cell?, hb, gateObj]
  | some n =>
    simp only [World.cell?, hb, gateObj]
    match o, ho with
    | 0, _ => rfl
    | 1, _ => rfl
    | 2, _ => rfl
    | 3, _ => rfl
    | 4, _ => rfl
    | 5, _ => rfl
    | 6, _ => rfl
    | 7, _ => rfl
    | 8, _ => rfl
theorem gate_free {rd : Option Int} {mu room pass time held : Int} {fi la : Value} (hb : w.heap[gb]? = some (gateObj rd mu room pass time held tv fi la)) (o : Nat) : w.frozen? ⟨gb, o, none⟩ = false := by
  cases rd <;> simp [World.frozen?, hb, gateObj]

/-- A cell of the gate. -/
theorem PH.gcell (h : PH w gb q tv rs ns) (o : Nat) (ho : o < 9 := by omega) : w.cell? ⟨gb, o, none⟩ = (#[.int .i32 q.mu, .int .u32 0, .int .i64 q.room, .int .i64 q.pass, .int .i64 q.time, .int .i64 q.held, tv, pn ns.head?, pn ns.getLast?] : Array Value)[o]? := gate_cell h.gate o ho
theorem PH.gfr (h : PH w gb q tv rs ns) (o : Nat) : w.frozen? ⟨gb, o, none⟩ = false := gate_free h.gate o
theorem PH.readers (h : PH w gb q tv rs ns) {n : Int} (hn : q.rd = some n) : w.cell? ⟨gb, 9, none⟩ = some (.int .i64 n) := by
  have hg := h.gate
  rw [hn] at hg
  simp [World.cell?, hg, gateObj]
theorem PH.rcell (h : PH w gb q tv rs ns) {r : Rc} (hr : r ∈ rs) (o : Nat) : w.cell? ⟨r.blk, o, none⟩ = (#[.int .i64 r.weight, .int .i64 r.stands, .chan (r.ch.map (·.1))] : Array Value)[o]? := by
  simp [World.cell?, h.recs r hr, recObj]
theorem PH.rfr (h : PH w gb q tv rs ns) {r : Rc} (hr : r ∈ rs) (o : Nat) : w.frozen? ⟨r.blk, o, none⟩ = false := by simp [World.frozen?, h.recs r hr, recObj]
theorem PH.ncell (h : PH w gb q tv rs ns) (j : Nat) (hj : j < ns.length) (o : Nat) : w.cell? ⟨ns[j].blk, o, none⟩ = (#[.int .i64 ns[j].num, pr ns[j].rcd, .int .i64 ns[j].band, .int .i64 ns[j].count, .int .i64 ns[j].till, pn (prevOf ns j), pn ns[j + 1]?, .pointer (some ⟨gb, 7, none⟩)] : Array Value)[o]? := by
  simp [World.cell?, h.nodes j hj, nodeObj]
theorem PH.nfr (h : PH w gb q tv rs ns) (j : Nat) (hj : j < ns.length) (o : Nat) : w.frozen? ⟨ns[j].blk, o, none⟩ = false := by simp [World.frozen?, h.nodes j hj, nodeObj]

/-- A store into one of the gate's cells. -/
theorem gate_set {rd : Option Int} {mu room pass time held : Int} {fi la : Value} (hb : w.heap[gb]? = some (gateObj rd mu room pass time held tv fi la)) :
    (∀ x, (w.setCell ⟨gb, 0, none⟩ (.int .i32 x)).heap[gb]? = some (gateObj rd x room pass time held tv fi la)) ∧ (∀ x, (w.setCell ⟨gb, 2, none⟩ (.int .i64 x)).heap[gb]? = some (gateObj rd mu x pass time held tv fi la)) ∧
    (∀ x, (w.setCell ⟨gb, 4, none⟩ (.int .i64 x)).heap[gb]? = some (gateObj rd mu room pass x held tv fi la)) ∧ (∀ x, (w.setCell ⟨gb, 5, none⟩ (.int .i64 x)).heap[gb]? = some (gateObj rd mu room pass time x tv fi la)) ∧
    (∀ v, (w.setCell ⟨gb, 6, none⟩ v).heap[gb]? = some (gateObj rd mu room pass time held v fi la)) := by
  cases rd with
  | none => exact ⟨fun x => heap_setCell_same w gb 0 _ _ _ hb, fun x => heap_setCell_same w gb 2 _ _ _ hb, fun x => heap_setCell_same w gb 4 _ _ _ hb, fun x => heap_setCell_same w gb 5 _ _ _ hb, fun v => heap_setCell_same w gb 6 _ _ _ hb⟩
  | some n => exact ⟨fun x => heap_setCell_same w gb 0 _ _ _ hb, fun x => heap_setCell_same w gb 2 _ _ _ hb, fun x => heap_setCell_same w gb 4 _ _ _ hb, fun x => heap_setCell_same w gb 5 _ _ _ hb, fun v => heap_setCell_same w gb 6 _ _ _ hb⟩

/-- A store into one of the gate's numbers. -/
theorem PH.setHeld (h : PH w gb q tv rs ns) (x : Int) : PH (w.setCell ⟨gb, 5, none⟩ (.int .i64 x)) gb { q with held := x } tv rs ns :=
  h.gateSet (fun _ hk => Below.heap_setCell _ _ _ _ hk) ((gate_set h.gate).2.2.2.1 x)
theorem PH.setMu (h : PH w gb q tv rs ns) (x : Int) : PH (w.setCell ⟨gb, 0, none⟩ (.int .i32 x)) gb { q with mu := x } tv rs ns :=
  h.gateSet (fun _ hk => Below.heap_setCell _ _ _ _ hk) ((gate_set h.gate).1 x)

theorem nodup_ne {l : List Nat} (h : l.Nodup) {i j : Nat} (hi : i < l.length) (hj : j < l.length) (hne : i ≠ j) : l[i] ≠ l[j] := by
  intro e
  exact hne ((List.getElem_inj h).1 e)

theorem PH.recNe (h : PH w gb q tv rs ns) {i j : Nat} (hi : i < rs.length) (hj : j < rs.length) (hne : i ≠ j) : rs[i].blk ≠ rs[j].blk := by
  have := nodup_ne h.nd1 (i := i) (j := j) (by simpa using hi) (by simpa using hj) hne
  simpa using this
theorem PH.nodeNe (h : PH w gb q tv rs ns) {i j : Nat} (hi : i < ns.length) (hj : j < ns.length) (hne : i ≠ j) : ns[i].blk ≠ ns[j].blk := by
  have := nodup_ne h.nd2 (i := i) (j := j) (by simpa using hi) (by simpa using hj) hne
  simpa using this

/-- One record, and its channel, has changed. -/
theorem PH.recSet (h : PH w gb q tv rs ns) (i : Nat) (hi : i < rs.length) (r' : Rc) (hb : r'.blk = rs[i].blk)
    (hk : ∀ k, k < w.heap.size → k ≠ rs[i].blk → (∀ c s, r'.ch = some (c, s) → k ≠ c) → w'.heap[k]? = w.heap[k]?)
    (hr : w'.heap[rs[i].blk]? = some (recObj r')) (hc : ∀ c s, r'.ch = some (c, s) → ChanAt w' c s)
    (hn : ∀ c s, r'.ch = some (c, s) → ∀ j (hj : j < rs.length), j ≠ i → ∀ c' s', rs[j].ch = some (c', s') → c ≠ c')
    (ho : ∀ c s, r'.ch = some (c, s) → (∃ s0, ChanAt w c s0) ∨ w.heap.size ≤ c) : PH w' gb q tv (rs.set i r') ns := by
  have other : ∀ {k : Nat} {o : Obj}, w.heap[k]? = some o → kindOf o ≠ kindOf (recObj r') → kindOf o ≠ 0 → w'.heap[k]? = w.heap[k]? := by
    intro k o hh h1 h0
    refine hk k (lt_of_block hh) (ne_of_kind hh (h.recs _ (List.getElem_mem hi)) (by simpa [kind_cells, kind_chan, recObj] using h1)) fun c s hcs => ?_
    rcases ho c s hcs with ⟨s0, hs0⟩ | hge
    · exact ne_of_kind hh hs0 (by simpa [kind_cells, kind_chan] using h0)
    · have := lt_of_block hh; omega
  have recOther : ∀ j (hj : j < rs.length), j ≠ i → w'.heap[rs[j].blk]? = w.heap[rs[j].blk]? := by
    intro j hj hne
    have hh := h.recs _ (List.getElem_mem hj)
    refine hk _ (lt_of_block hh) (h.recNe hj hi hne) fun c s hcs => ?_
    rcases ho c s hcs with ⟨s0, hs0⟩ | hge
    · exact ne_of_kind hh hs0 (by simp [kind_cells, kind_chan, recObj])
    · have := lt_of_block hh; omega
  have mem : ∀ r ∈ rs.set i r', r = r' ∨ ∃ j, ∃ hj : j < rs.length, j ≠ i ∧ r = rs[j] := by
    intro r hr'
    obtain ⟨j, hj, rfl⟩ := List.getElem_of_mem hr'
    have hj' : j < rs.length := by simpa using hj
    rw [List.getElem_set]
    by_cases e : i = j
    · left; simp [e]
    · right; exact ⟨j, hj', fun x => e x.symm, by simp [e]⟩
  refine ⟨(other h.gate (by simp [kind_cells, kind_gate, recObj]) (by simp [kind_gate])).trans h.gate, ?_, ?_, ?_, ?_, ?_, h.nd2, ?_⟩
  · have e : (rs.set i r').map (fun r => pr r.blk) = rs.map fun r => pr r.blk := by
      rw [List.map_set, hb]
      apply List.ext_getElem
      · simp
      · intro j h1 h2
        rw [List.getElem_set]
        split
        · rename_i e; subst e; simp
        · rfl
    rw [List.length_set, e]
    refine ownsRow_keep h.row fun k hk' => ?_
    obtain ⟨cur, hh⟩ := h.rowBlk hk'
    exact other hh (by simp [kind_cells, recObj]) (by simp [kind_cells])
  · intro r hr'
    rcases mem r hr' with rfl | ⟨j, hj, hne, rfl⟩
    · rw [hb]; exact hr
    · exact (recOther j hj hne).trans (h.recs _ (List.getElem_mem hj))
  · intro r hr' c s hcs
    rcases mem r hr' with rfl | ⟨j, hj, hne, rfl⟩
    · exact hc c s hcs
    · have hh := h.chans _ (List.getElem_mem hj) c s hcs
      refine (hk c (lt_of_block hh) (ne_of_kind hh (h.recs _ (List.getElem_mem hi)) (by simp [kind_cells, kind_chan, recObj])) fun c' s' hcs' => ?_).trans hh
      exact fun e => hn c' s' hcs' j hj hne c s hcs e.symm
  · intro j hj
    exact (other (h.nodes j hj) (by simp [kind_cells, nodeObj, recObj]) (by simp [kind_cells, nodeObj])).trans (h.nodes j hj)
  · have e : (rs.set i r').map (·.blk) = rs.map (·.blk) := by
      rw [List.map_set, hb]
      apply List.ext_getElem
      · simp
      · intro j h1 h2
        rw [List.getElem_set]
        split
        · rename_i e; subst e; simp
        · rfl
    rw [e]; exact h.nd1
  · intro a b ha hb' hab c s c' s' h1 h2
    have ha' : a < rs.length := by simpa using ha
    have hb'' : b < rs.length := by simpa using hb'
    rw [List.getElem_set] at h1 h2
    by_cases e : i = a
    · rw [if_pos e] at h1
      rw [if_neg (by omega)] at h2
      exact hn c s h1 b hb'' (by omega) c' s' h2
    · rw [if_neg e] at h1
      by_cases e2 : i = b
      · rw [if_pos e2] at h2
        exact fun x => hn c' s' h2 a ha' (by omega) c s h1 x.symm
      · rw [if_neg e2] at h2
        exact h.nd3 a b ha' hb'' hab c s c' s' h1 h2
end

end Go.Proofs.Ytekjgjhhjlcoaaa
