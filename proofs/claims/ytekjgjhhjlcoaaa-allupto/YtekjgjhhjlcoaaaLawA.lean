import Derived.Test.YtekjgjhhjlcoaaaPrgO
import Derived.Test.YtekjgjhhjlcoaaaLawS
namespace Go.Proofs.Ytekjgjhhjlcoaaa
open Go.RowKit Go.Conc

/-- What pick answers hangs on its arguments alone. -/
theorem pick_one (c : Int) (n : Nat) (hn : 0 < n) (hn2 : n ≤ 4611686018427387904) (h1 : -9223372036854775808 ≤ c) (h2 : c ≤ 9223372036854775807) :
    ∃ r : Nat, r < n ∧ ∀ w, Calls Try.prog 56 #[.int .i64 c, .int .i64 (n : Int)] w fun e w' => e = .returned (.int .i64 (r : Int)) ∧ w' = w := by
  have key : ∀ x : Int, 0 ≤ x → ∃ r : Nat, r < n ∧ x.tmod (n : Int) = r := by
    intro x hx
    refine ⟨(x.tmod n).toNat, ?_, ?_⟩
    · have a := Int.tmod_lt_of_pos x (show (0 : Int) < n by omega)
      have b := Int.tmod_nonneg (n : Int) hx
      omega
    · have b := Int.tmod_nonneg (n : Int) hx
      omega
  have hn0 : ¬ (n : Int) = 0 := by omega
  by_cases hc : c < 0
  · obtain ⟨r, hr, e⟩ := key (-(c + 1)) (by omega)
    refine ⟨r, hr, fun w => ?_⟩
    go_enter Try.func56, Try.ntmps56
    go_wp2
    all_goals go_ret
    all_goals exact ⟨rfl, rfl⟩
  · obtain ⟨r, hr, e⟩ := key c (by omega)
    refine ⟨r, hr, fun w => ?_⟩
    go_enter Try.func56, Try.ntmps56
    go_wp2
    all_goals go_ret
    all_goals exact ⟨rfl, rfl⟩

/-- A pair of the law's world: the program's gate, the document's, and what both are. -/
structure Pr where
  rd : Option Int
  gb : Nat
  b : Nat
  g : Tg.Gt
  tv : Value
  rv : Value
  rs : List Rc
  ns : List Nd

/-- Its four cells: a gate, or a hall; the document's gate; a hall's readers. -/
def px (p : Pr) : Option Addr := match p.rd with
  | none => some ⟨p.gb, 0, none⟩
  | some _ => none
def phl (p : Pr) : Option Addr := match p.rd with
  | none => none
  | some _ => some ⟨p.gb, 0, none⟩
def pnm (p : Pr) : Int := p.rd.getD 0
def prVals (p : Pr) : List Value := [.pointer (px p), .pointer (phl p), .pointer (some ⟨p.b, 0, none⟩), .int .i64 (pnm p)]
def prsCells : List Pr → List Value
  | [] => []
  | p :: r => prVals p ++ prsCells r
def FP (p : Pr) (k : Nat) : Prop := PS p.gb p.tv p.rs p.ns k ∨ RGs p.b p.rv k

theorem prsCells_length (l : List Pr) : (prsCells l).length = l.length * 4 := by
  induction l with
  | nil => rfl
  | cons t r ih => simp only [prsCells, List.length_append, ih, List.length_cons]; simp [prVals]; omega
theorem prsCells_append (a b : List Pr) : prsCells (a ++ b) = prsCells a ++ prsCells b := by
  induction a with
  | nil => rfl
  | cons t r ih => simp [prsCells, ih]
theorem prsCells_at (l : List Pr) (k f : Nat) (hk : k < l.length) (hf : f < 4) : (prsCells l)[k * 4 + f]? = (prVals l[k])[f]? := by
  induction l generalizing k with
  | nil => simp at hk
  | cons t r ih =>
    cases k with
    | zero =>
      simp only [prsCells, Nat.zero_mul, Nat.zero_add, List.getElem_cons_zero]
      rw [List.getElem?_append_left (by simp [prVals]; omega)]
    | succ k =>
      simp only [prsCells, List.getElem_cons_succ]
      rw [List.getElem?_append_right (by simp [prVals]; omega)]
      rw [← ih k (by simpa using hk)]
      congr 1
      simp [prVals]; omega
theorem prsCells_set (l : List Pr) (i : Nat) (p' : Pr) (h1 : ∀ hi : i < l.length, p'.gb = l[i].gb) (h2 : ∀ hi : i < l.length, p'.b = l[i].b) (h3 : ∀ hi : i < l.length, p'.rd = l[i].rd) : prsCells (l.set i p') = prsCells l := by
  induction l generalizing i with
  | nil => rfl
  | cons t r ih =>
    cases i with
    | zero =>
      have a := h1 (by simp)
      have b := h2 (by simp)
      have c := h3 (by simp)
      simp at a b c
      simp [prsCells, prVals, px, phl, pnm, a, b, c]
    | succ i =>
      simp only [List.set_cons_succ, prsCells]
      rw [ih i (fun hi => h1 (Nat.succ_lt_succ hi)) (fun hi => h2 (Nat.succ_lt_succ hi)) (fun hi => h3 (Nat.succ_lt_succ hi))]

/-- One pair is as it should be, below N nothing of it lies; B: how great it may have grown. -/
structure PrOk (N B : Nat) (w : World) (p : Pr) : Prop where
  pg : PG p.rd w p.gb p.g p.tv p.rs p.ns
  rg : RG w p.b p.g p.rv
  ok : Tg.GtOk p.g
  quiet : Tg.Quiet p.g.room p.g.pass p.g.all
  low : ∀ k, FP p k → N ≤ k
  len : p.g.all.length ≤ B
  time : p.g.time ≤ B

theorem PrOk.lt {N B : Nat} {w : World} {p : Pr} (h : PrOk N B w p) : ∀ k, FP p k → k < w.heap.size := by
  intro k hk
  rcases hk with x | x
  · exact h.pg.ph.lt k x
  · exact h.rg.lt k x
theorem PrOk.keep {N B : Nat} {w w' : World} {p : Pr} (h : PrOk N B w p) (hs : ∀ k, FP p k → w'.heap[k]? = w.heap[k]?) : PrOk N B w' p :=
  ⟨⟨h.pg.ph.keep fun k hk => hs k (Or.inl hk), h.pg.rel⟩, h.rg.keep fun k hk => hs k (Or.inr hk), h.ok, h.quiet, h.low, h.len, h.time⟩
theorem PrOk.mono {N B B' : Nat} {w : World} {p : Pr} (h : PrOk N B w p) (hb : B ≤ B') : PrOk N B' w p :=
  ⟨h.pg, h.rg, h.ok, h.quiet, h.low, by have := h.len; omega, by have := h.time; omega⟩

/-- A block of a pair is none of the world's own. -/
theorem PrOk.kind {N B : Nat} {w : World} {p : Pr} (h : PrOk N B w p) {k : Nat} (hk : FP p k) : ∃ o, w.heap[k]? = some o ∧ kindOf o ≠ 76 + 1 ∧ kindOf o ≠ 100 + 1 ∧ kindOf o ≠ 3 + 1 ∧ kindOf o ≠ 40 + 1 := by
  rcases hk with x | x
  · rcases x with rfl | x | ⟨r, hr, rfl⟩ | ⟨r, hr, c, s, hc, rfl⟩ | ⟨n, hn, rfl⟩
    · exact ⟨_, h.pg.ph.gate, by simp [kind_gate], by simp [kind_gate], by simp [kind_gate], by simp [kind_gate]⟩
    · obtain ⟨cur, hh⟩ := h.pg.ph.rowBlk x; exact ⟨_, hh, by simp [kind_cells], by simp [kind_cells], by simp [kind_cells], by simp [kind_cells]⟩
    · exact ⟨_, h.pg.ph.recs r hr, by simp [kind_cells, recObj], by simp [kind_cells, recObj], by simp [kind_cells, recObj], by simp [kind_cells, recObj]⟩
    · exact ⟨_, h.pg.ph.chans r hr k s hc, by simp [kind_chan], by simp [kind_chan], by simp [kind_chan], by simp [kind_chan]⟩
    · obtain ⟨j, hj, _, hh⟩ := h.pg.ph.node_at hn; exact ⟨_, hh, by simp [kind_cells, nodeObj], by simp [kind_cells, nodeObj], by simp [kind_cells, nodeObj], by simp [kind_cells, nodeObj]⟩
  · rcases x with rfl | x
    · exact ⟨_, h.rg.blk, by simp [kind_cells], by simp [kind_cells], by simp [kind_cells], by simp [kind_cells]⟩
    · rcases h.rg.row.2 with ⟨e, _⟩ | ⟨ab, cap, cur, e, _, hh, _⟩
      · rw [e] at x; simp [Value.ownBlock] at x
      · rw [e] at x; simp [Value.ownBlock] at x; subst x; exact ⟨_, hh, by simp [kind_cells], by simp [kind_cells], by simp [kind_cells], by simp [kind_cells]⟩

/-- The program's blocks are none of the document's. -/
theorem PrOk.apart {N B : Nat} {w : World} {p : Pr} (h : PrOk N B w p) {k : Nat} (hk : PS p.gb p.tv p.rs p.ns k) : ¬ RGs p.b p.rv k := by
  intro hr
  have h1 : ∃ o, w.heap[k]? = some o ∧ kindOf o ≠ 125 + 1 ∧ kindOf o ≠ 127 + 1 := by
    rcases hk with rfl | x | ⟨r, hr', rfl⟩ | ⟨r, hr', c, s, hc, rfl⟩ | ⟨n, hn, rfl⟩
    · exact ⟨_, h.pg.ph.gate, by simp [kind_gate], by simp [kind_gate]⟩
    · obtain ⟨cur, hh⟩ := h.pg.ph.rowBlk x; exact ⟨_, hh, by simp [kind_cells], by simp [kind_cells]⟩
    · exact ⟨_, h.pg.ph.recs r hr', by simp [kind_cells, recObj], by simp [kind_cells, recObj]⟩
    · exact ⟨_, h.pg.ph.chans r hr' k s hc, by simp [kind_chan], by simp [kind_chan]⟩
    · obtain ⟨j, hj, _, hh⟩ := h.pg.ph.node_at hn; exact ⟨_, hh, by simp [kind_cells, nodeObj], by simp [kind_cells, nodeObj]⟩
  obtain ⟨o, ho, n1, n2⟩ := h1
  rcases hr with rfl | x
  · rw [h.rg.blk] at ho; simp at ho; subst ho; simp [kind_cells] at n1
  · rcases h.rg.row.2 with ⟨e, _⟩ | ⟨ab, cap, cur, e, _, hh, _⟩
    · rw [e] at x; simp [Value.ownBlock] at x
    · rw [e] at x; simp [Value.ownBlock] at x; subst x
      rw [hh] at ho; simp at ho; subst ho; simp [kind_cells] at n2

/-- The law's world in memory. -/
structure WI (N B : Nat) (w0 w : World) (wb : Nat) (lv : Value) (ps : List Pr) (x : Ls) : Prop where
  blk : w.heap[wb]? = some (.cells #[lv, x.nv, x.kv] 76 (0, 0))
  row : w.ownsRow 0 100 4 lv ps.length (prsCells ps)
  prs : ∀ p ∈ ps, PrOk N B w p
  sep : ∀ i j (hi : i < ps.length) (hj : j < ps.length), i ≠ j → ∀ k, FP ps[i] k → ¬ FP ps[j] k
  low : N ≤ wb
  rlow : ∀ k, lv.ownBlock = some k → N ≤ k
  bel : Below N w0 w
  num : ps.length ≤ B
  li : LI N w x.nv x.kv x.ls
  lnum : x.ls.length ≤ 4 * B

section
variable {N B : Nat} {w0 w w' : World} {wb : Nat} {lv : Value} {ps : List Pr} {x : Ls}

theorem WI.rowBlk (h : WI N B w0 w wb lv ps x) {k : Nat} (hk : lv.ownBlock = some k) : ∃ cur, w.heap[k]? = some (.cells cur 100 (0, 0)) := by
  rcases h.row.2 with ⟨e, _⟩ | ⟨g', cap, cur, e, _, hh, _⟩
  · rw [e] at hk; simp [Value.ownBlock] at hk
  · rw [e] at hk; simp [Value.ownBlock] at hk; subst hk; exact ⟨cur, hh⟩

/-- Nothing that was there has changed. -/
theorem WI.grow (h : WI N B w0 w wb lv ps x) (hN : N ≤ w.heap.size) (ht : Tch (fun _ => False) w w') : WI N B w0 w' wb lv ps x := by
  have keep : ∀ k, k < w.heap.size → w'.heap[k]? = w.heap[k]? := fun k hk => ht.block k hk (fun x => x)
  refine ⟨(keep wb (lt_of_block h.blk)).trans h.blk, ownsRow_keep h.row fun k hk => ?_, fun p hp => (h.prs p hp).keep fun k hk => keep k ((h.prs p hp).lt k hk), h.sep, h.low, h.rlow, ?_, h.num, h.li.keepK fun k cur hk => keep k (by rcases hk with y | y <;> exact lt_of_block y), h.lnum⟩
  · obtain ⟨cur, hh⟩ := h.rowBlk hk; exact keep k (lt_of_block hh)
  · exact h.bel.trans ⟨ht.os, ht.tape, ht.output, ht.size, fun k hk => keep k (by omega)⟩

theorem WI.mono {B' : Nat} (h : WI N B w0 w wb lv ps x) (hb : B ≤ B') : WI N B' w0 w wb lv ps x :=
  ⟨h.blk, h.row, fun p hp => (h.prs p hp).mono hb, h.sep, h.low, h.rlow, h.bel, by have := h.num; omega, h.li, by have := h.lnum; omega⟩

/-- One pair has changed. -/
theorem WI.upd {B' : Nat} (h : WI N B w0 w wb lv ps x) (hb : B ≤ B') (hN : N ≤ w.heap.size) (i : Nat) (hi : i < ps.length) (p' : Pr) (e1 : p'.gb = ps[i].gb) (e2 : p'.b = ps[i].b) (e3 : p'.rd = ps[i].rd)
    (ht : Tch (FP ps[i]) w w') (hp : PrOk N B' w' p') (hs : ∀ k, FP p' k → FP ps[i] k ∨ w.heap.size ≤ k) : WI N B' w0 w' wb lv (ps.set i p') x := by
  have pi := h.prs _ (List.getElem_mem hi)
  have off : ∀ {k : Nat} {o : Obj}, w.heap[k]? = some o → (kindOf o = 76 + 1 ∨ kindOf o = 100 + 1 ∨ kindOf o = 3 + 1 ∨ kindOf o = 40 + 1) → w'.heap[k]? = w.heap[k]? := by
    intro k o hh hk
    refine ht.block k (lt_of_block hh) fun x => ?_
    obtain ⟨o', ho', n1, n2, n3, n4⟩ := pi.kind x
    rw [hh] at ho'; simp at ho'; subst ho'
    rcases hk with y | y | y | y
    · exact n1 y
    · exact n2 y
    · exact n3 y
    · exact n4 y
  have mem : ∀ p ∈ ps.set i p', p = p' ∨ ∃ j, ∃ hj : j < ps.length, j ≠ i ∧ p = ps[j] := by
    intro p hp'
    obtain ⟨j, hj, rfl⟩ := List.getElem_of_mem hp'
    have hj' : j < ps.length := by simpa using hj
    rw [List.getElem_set]
    by_cases e : i = j
    · left; simp [e]
    · right; exact ⟨j, hj', fun x => e x.symm, by simp [e]⟩
  refine ⟨(off h.blk (Or.inl (by simp [kind_cells]))).trans h.blk, ?_, fun p hp' => ?_, ?_, h.low, h.rlow, ?_, ?_, h.li.keepK fun k cur hk => ?_, by have := h.lnum; omega⟩
  · rw [List.length_set, prsCells_set ps i p' (fun _ => e1) (fun _ => e2) (fun _ => e3)]
    refine ownsRow_keep h.row fun k hk => ?_
    obtain ⟨cur, hh⟩ := h.rowBlk hk
    exact off hh (Or.inr (Or.inl (by simp [kind_cells])))
  · rcases mem p hp' with rfl | ⟨j, hj, hne, rfl⟩
    · exact hp
    · have pj := h.prs _ (List.getElem_mem hj)
      exact (pj.keep fun k hk => ht.block k (pj.lt k hk) fun x => h.sep i j hi hj (fun e => hne e.symm) k x hk).mono hb
  · intro a b ha hb' hab k ka kb
    have ha' : a < ps.length := by simpa using ha
    have hb'' : b < ps.length := by simpa using hb'
    rw [List.getElem_set] at ka kb
    by_cases ea : i = a
    · rw [if_pos ea] at ka
      rw [if_neg (by omega)] at kb
      rcases hs k ka with x | x
      · exact h.sep i b hi hb'' (by omega) k x kb
      · have := (h.prs _ (List.getElem_mem hb'')).lt k kb; omega
    · rw [if_neg ea] at ka
      by_cases eb : i = b
      · rw [if_pos eb] at kb
        rcases hs k kb with x | x
        · exact h.sep i a hi ha' (by omega) k x ka
        · have := (h.prs _ (List.getElem_mem ha')).lt k ka; omega
      · rw [if_neg eb] at kb
        exact h.sep a b ha' hb'' hab k ka kb
  · exact h.bel.trans ⟨ht.os, ht.tape, ht.output, ht.size, fun k hk => ht.block k (by omega) fun x => by have := pi.low k x; omega⟩
  · have := h.num; simp; omega
  · rcases hk with y | y
    · exact off y (Or.inr (Or.inr (Or.inl (by simp [kind_cells]))))
    · exact off y (Or.inr (Or.inr (Or.inr (by simp [kind_cells]))))

/-- A pair more. -/
theorem WI.add {B' : Nat} {lv' : Value} (h : WI N B w0 w wb lv ps x) (hb : B + 1 ≤ B') (hN : N ≤ w.heap.size) (p' : Pr) (hp : PrOk N B' w p') (hs : ∀ i (hi : i < ps.length) k, FP p' k → ¬ FP ps[i] k)
    (ho : w'.ownsRow 0 100 4 lv' (ps.length + 1) (prsCells ps ++ prVals p')) (hg : w.grownBy w' lv.ownBlock) (hm : Moved w lv lv') :
    w'.cell? ⟨wb, 0, none⟩ = some lv ∧ w'.frozen? ⟨wb, 0, none⟩ = false ∧ WI N B' w0 (w'.setCell ⟨wb, 0, none⟩ lv') wb lv' (ps ++ [p']) x := by
  have keep : ∀ {k : Nat} {o : Obj}, w.heap[k]? = some o → kindOf o ≠ 100 + 1 → w'.heap[k]? = w.heap[k]? := by
    intro k o hh hk
    refine hg.block k (lt_of_block hh) fun e => ?_
    obtain ⟨cur, h2⟩ := h.rowBlk e.symm
    rw [hh] at h2; simp at h2; subst h2; simp [kind_cells] at hk
  have hbw : w'.heap[wb]? = some (.cells #[lv, x.nv, x.kv] 76 (0, 0)) := (keep h.blk (by simp [kind_cells])).trans h.blk
  have hne : lv'.ownBlock ≠ some wb := by
    intro e
    rcases ho.2 with ⟨rfl, _⟩ | ⟨ab, cap, cur, rfl, _, hh, _⟩
    · simp [Value.ownBlock] at e
    · simp [Value.ownBlock] at e; subst e; rw [hh] at hbw; simp at hbw
  have prk : ∀ p, PrOk N B' w p → PrOk N B' (w'.setCell ⟨wb, 0, none⟩ lv') p := fun p pk => pk.keep fun k hk => by
    obtain ⟨o, ho', n1, n2, _⟩ := pk.kind hk
    rw [Below.heap_setCell _ _ _ _ (ne_of_kind ho' h.blk (by simpa [kind_cells, kind_chan] using n1))]
    exact keep ho' n2
  have rl : ∀ k, lv'.ownBlock = some k → N ≤ k := fun k hk => by
    rcases hm with y | ⟨j, y, z⟩
    · exact h.rlow k (by rw [← y]; exact hk)
    · rw [y] at hk; simp at hk; omega
  refine ⟨by simp [World.cell?, hbw], by simp [World.frozen?, hbw], heap_setCell_same w' wb 0 _ _ _ hbw, ?_, fun p hp' => ?_, ?_, h.low, rl, ?_, ?_, h.li.keepK fun k cur hk => ?_, by have := h.lnum; omega⟩
  · have := ownsRow_setCell_other ho (a := ⟨wb, 0, none⟩) hne lv'
    have e : prsCells (ps ++ [p']) = prsCells ps ++ prVals p' := by rw [prsCells_append]; simp [prsCells]
    simpa [e] using this
  · rcases List.mem_append.1 hp' with x | x
    · exact prk p ((h.prs p x).mono (by omega))
    · simp at x; subst x; exact prk p hp
  · intro i j hi hj hij k ki kj
    by_cases ei : i < ps.length
    · rw [List.getElem_append_left ei] at ki
      by_cases ej : j < ps.length
      · rw [List.getElem_append_left ej] at kj
        exact h.sep i j ei ej hij k ki kj
      · rw [List.getElem_append_right (by omega)] at kj
        simp at kj
        exact hs i ei k kj ki
    · rw [List.getElem_append_right (by omega)] at ki
      simp at ki
      have ej : j < ps.length := by simp at hi hj; omega
      rw [List.getElem_append_left ej] at kj
      exact hs j ej k ki kj
  · exact (h.bel.grown hg hN h.rlow).setCell (p := ⟨wb, 0, none⟩) h.low _
  · have := h.num; simp; omega
  · rcases hk with y | y
    · rw [Below.heap_setCell _ _ _ _ (ne_of_kind y h.blk (by simp [kind_cells]))]; exact keep y (by simp [kind_cells])
    · rw [Below.heap_setCell _ _ _ _ (ne_of_kind y h.blk (by simp [kind_cells]))]; exact keep y (by simp [kind_cells])
end

end Go.Proofs.Ytekjgjhhjlcoaaa
