import Derived.Test.YtekjgjhhjlcoaaaRows
import Derived.Test.YtekjgjhhjlcoaaaMod
import Derived.WalkKit
import Derived.WalkSpells
import Derived.WalkLawsBesides
import Derived.WalkSmall
import Derived.Deep.QuietTactic
import Derived.Deep.LoopGhost
import Derived.Deep.RegionLaw
import Derived.BigQuiet
namespace Go.Proofs.Ytekjgjhhjlcoaaa
open Go.RowKit

theorem hid {p : Prop} (h : p) : Hid p := h
theorem wrapId (x : Int) (h1 : -9223372036854775808 ≤ x) (h2 : x ≤ 9223372036854775807) : IntKind.i64.wrap x = x := by
  rw [IntKind.wrap_i64]; omega
theorem ret_int {k : IntKind} {a b : Int} (h : a = b) : Ending.returned (.int k a) = .returned (.int k b) := by rw [h]
theorem ret_bool {a b : Bool} (h : a = b) : Ending.returned (.bool a) = .returned (.bool b) := by rw [h]

/-- But for the blocks of S, and for new ones, w' is as w was. -/
structure Tch (S : Nat → Prop) (w w' : World) : Prop where
  os : w'.os = w.os
  tape : w'.tape = w.tape
  output : w'.output = w.output
  size : w.heap.size ≤ w'.heap.size
  block : ∀ k, k < w.heap.size → ¬ S k → w'.heap[k]? = w.heap[k]?

theorem Tch.refl (S : Nat → Prop) (w : World) : Tch S w w := ⟨rfl, rfl, rfl, Nat.le_refl _, fun _ _ _ => rfl⟩
theorem Tch.trans {S : Nat → Prop} {a b c : World} (h : Tch S a b) (k : Tch S b c) : Tch S a c :=
  ⟨k.os.trans h.os, k.tape.trans h.tape, k.output.trans h.output, Nat.le_trans h.size k.size, fun i hi hs => (k.block i (Nat.lt_of_lt_of_le hi h.size) hs).trans (h.block i hi hs)⟩
/-- A later step may touch what the earlier one has made. -/
theorem Tch.trans' {S S' : Nat → Prop} {a b c : World} (h : Tch S a b) (k : Tch S' b c) (hs : ∀ i, S' i → S i ∨ a.heap.size ≤ i) : Tch S a c :=
  ⟨k.os.trans h.os, k.tape.trans h.tape, k.output.trans h.output, Nat.le_trans h.size k.size,
    fun i hi hn => (k.block i (Nat.lt_of_lt_of_le hi h.size) (fun x => by rcases hs i x with y | y; exact hn y; omega)).trans (h.block i hi hn)⟩
theorem Tch.mono {S S' : Nat → Prop} {a b : World} (h : Tch S a b) (hs : ∀ i, S i → S' i) : Tch S' a b :=
  ⟨h.os, h.tape, h.output, h.size, fun i hi hn => h.block i hi (fun x => hn (hs i x))⟩
theorem Tch.drew {S : Nat → Prop} {a w : World} (h : Tch S a w) : Tch S a w.drew := ⟨h.os, h.tape, h.output, h.size, h.block⟩
theorem Tch.drewN {S : Nat → Prop} {a w : World} (h : Tch S a w) (n : Nat) : Tch S a (w.drewN n) := ⟨h.os, h.tape, h.output, h.size, h.block⟩
theorem Tch.setCell {S : Nat → Prop} {a w : World} (h : Tch S a w) {p : Addr} (hp : S p.block ∨ a.heap.size ≤ p.block) (u : Value) : Tch S a (w.setCell p u) :=
  ⟨h.os, h.tape, h.output, by simpa [World.setCell] using h.size, fun k hk hn => by
    rw [Below.heap_setCell _ _ _ _ (by rintro rfl; rcases hp with x | x; exact hn x; omega)]; exact h.block k hk hn⟩
theorem Tch.alloc {S : Nat → Prop} {a w : World} (h : Tch S a w) (o : Obj) : Tch S a (w.alloc o) :=
  ⟨h.os, h.tape, h.output, by have := h.size; simp; omega, fun k hk hn => by
    rw [Below.heap_alloc _ _ _ (by have := h.size; omega)]; exact h.block k hk hn⟩
theorem Tch.grown {S : Nat → Prop} {a w w' : World} {row : Option Nat} (h : Tch S a w) (hg : w.grownBy w' row) (hr : ∀ k, row = some k → S k ∨ a.heap.size ≤ k) : Tch S a w' :=
  ⟨hg.os.trans h.os, hg.tape.trans h.tape, hg.output.trans h.output, Nat.le_trans h.size hg.size, fun k hk hn =>
    (hg.block k (Nat.lt_of_lt_of_le hk h.size) (fun e => by rcases hr k e.symm with x | x; exact hn x; omega)).trans (h.block k hk hn)⟩

theorem alloc_drewN (w : World) (n : Nat) (o : Obj) : (w.drewN n).alloc o = (w.alloc o).drewN n := rfl
theorem setCell_drewN (w : World) (n : Nat) (a : Addr) (v : Value) : (w.drewN n).setCell a v = (w.setCell a v).drewN n := rfl

/-- Where an append has put the row: where it was, or in a new block. -/
def Moved (w : World) (v v' : Value) : Prop := v'.ownBlock = v.ownBlock ∨ ∃ k, v'.ownBlock = some k ∧ w.heap.size ≤ k

theorem run_append_own2 {P : Program} (w : World) (t ty e : TypeId) (i : TypeInfo) (z : Value) (size bytes : Nat) (ht : P.underlying t = some (.slice e)) (hi : P.info? e = some i) (hz : i.zero = some z)
    (hsize : i.size = size) (hby : i.bytes = bytes) (hzs : z.cells.size = size) (hsz : 0 < size)
    (v : Value) (n : Nat) (xs : List Value) (hown : w.ownsRow 0 e size v n xs)
    (a : Addr) (m c : Nat) (news : List Value) (hl : news.length = m * size) (hnews : ∀ j u, news[j]? = some u → w.cell? (a.add j) = some u) (h1 : ∀ u ∈ news, u.oneCell' = true)
    (h63 : n + m ≤ maxLen) (hbytes : (n + m) * bytes ≤ 140737488355328) :
    ∃ v' w', (Builtin.append_ #[t, t] ty #[v, .slice (some a) m c]).run P w = .ok v' w' ∧ w'.ownsRow 0 e size v' (n + m) (xs ++ news) ∧ w.grownBy w' v.ownBlock ∧ Moved w v v' := by
  have low : ∀ {b : Nat} {v' : Value} {w' : World} {k : Nat} {ys : List Value}, w'.ownsRow b e size v' k ys → w'.ownsRow 0 e size v' k ys := by
    intro b v' w' k ys h
    refine ⟨h.1, ?_⟩
    rcases h.2 with h2 | ⟨g, cap, cur, hv, _, r⟩
    · exact Or.inl h2
    · exact Or.inr ⟨g, cap, cur, hv, Nat.zero_le _, r⟩
  have new : ∀ {v' : Value} {w' : World} {k : Nat} {ys : List Value}, w'.ownsRow w.heap.size e size v' k ys → v'.ownBlock = none ∨ ∃ k, v'.ownBlock = some k ∧ w.heap.size ≤ k := by
    intro v' w' k ys h
    rcases h.2 with ⟨rfl, _⟩ | ⟨g, cap, cur, rfl, hg, _⟩
    · exact Or.inl rfl
    · exact Or.inr ⟨g, rfl, hg⟩
  rcases hown.2 with ⟨rfl, rfl⟩ | ⟨g, cap, cur, rfl, hbg, hg, hnc, hcm, hcs, htake⟩
  · have hown' : w.ownsRow w.heap.size e size (.slice none 0 0) 0 xs := ⟨hown.1, Or.inl ⟨rfl, rfl⟩⟩
    obtain ⟨v', w', r1, r2, r3, _⟩ := run_append_own (P := P) w w.heap.size t ty e i z size bytes ht hi hz hsize hby hzs hsz _ 0 xs hown' a m c news hl hnews h1 h63 hbytes (Nat.le_refl _)
    refine ⟨v', w', r1, low r2, r3, ?_⟩
    rcases new r2 with h | h
    · exact Or.inl h
    · exact Or.inr h
  · by_cases hroom : n + m ≤ cap
    · obtain ⟨w', r1, r2, r3⟩ := run_append_fits (P := P) w 0 t ty e i size ht hi hsize g n cap xs hown a m c news hl hnews h1 hroom
      exact ⟨_, w', r1, r2, r3, Or.inl rfl⟩
    · obtain ⟨v', w', r1, r2, r3⟩ := run_append_arg_grows (P := P) w t ty e i z size bytes ht hi hz hsize hby hzs hsz ⟨g, 0, none⟩ n cap xs hown.1 (hown.cells (g := g) rfl) a m c news hl hnews (by omega) h63 hbytes
      refine ⟨v', w', r1, low r2, ⟨r3.os, r3.tape, r3.output, r3.size, fun k hk _ => r3.block k hk (by simp)⟩, ?_⟩
      rcases r2.2 with ⟨_, h0⟩ | ⟨g', cap', cur', rfl, hg', _⟩
      · omega
      · exact Or.inr ⟨g', rfl, hg'⟩

theorem wp_append_own2 {P : Program} {o : Oper} {a : Act} {w : World} {K : Act → World → Prop} {Q : Exit → Act → World → Prop} (s x : Operand) (t : TypeId)
    (ho : o.op = .call { callee := .builtin .append, args := #[s, x], argTypes := #[t, t] })
    (e : TypeId) (i : TypeInfo) (z : Value) (size bytes : Nat) (ht : P.underlying t = some (.slice e)) (hi : P.info? e = some i) (hz : i.zero = some z)
    (hsize : i.size = size) (hby : i.bytes = bytes) (hzs : z.cells.size = size) (hsz : 0 < size)
    (v : Value) (n : Nat) (xs : List Value) (hs : a.eval s = v) (hown : w.ownsRow 0 e size v n xs)
    (ad : Addr) (m c : Nat) (news : List Value) (hx : a.eval x = .slice (some ad) m c) (hl : news.length = m * size) (hnews : ∀ j u, news[j]? = some u → w.cell? (ad.add j) = some u) (h1 : ∀ u ∈ news, u.oneCell' = true)
    (h63 : n + m ≤ maxLen) (hbytes : (n + m) * bytes ≤ 140737488355328)
    (h : ∀ v' w', w'.ownsRow 0 e size v' (n + m) (xs ++ news) → w.grownBy w' v.ownBlock → Moved w v v' → K (a.put o.dst v') w') : o.wp P a w K Q := by
  obtain ⟨v', w', hr, h2, h3, h4⟩ := run_append_own2 (P := P) w t o.type e i z size bytes ht hi hz hsize hby hzs hsz v n xs hown ad m c news hl hnews h1 h63 hbytes
  unfold Oper.wp execOp
  simp only [ho, resolve, invoke, builtin, Sem.run_bind, Sem.run_pure, Result.andThen_ok, List.map_toArray, List.map_cons, List.map_nil, hs, hx, hr]
  exact h v' w' h2 h3 h4

theorem wpList_append_own2 {P : Program} {ops : Array Oper} {rest : List Oper} {o : Oper} {a : Act} {w : World} {Q : Exit → Act → World → Prop} (hgd : o.guard = none) (s x : Operand) (t : TypeId)
    (ho : o.op = .call { callee := .builtin .append, args := #[s, x], argTypes := #[t, t] })
    (e : TypeId) (i : TypeInfo) (z : Value) (size bytes : Nat) (ht : P.underlying t = some (.slice e)) (hi : P.info? e = some i) (hz : i.zero = some z)
    (hsize : i.size = size) (hby : i.bytes = bytes) (hzs : z.cells.size = size) (hsz : 0 < size)
    (v : Value) (n : Nat) (xs : List Value) (hs : a.eval s = v) (hown : w.ownsRow 0 e size v n xs)
    (ad : Addr) (m c : Nat) (news : List Value) (hx : a.eval x = .slice (some ad) m c) (hl : news.length = m * size) (hnews : ∀ j u, news[j]? = some u → w.cell? (ad.add j) = some u) (h1 : ∀ u ∈ news, u.oneCell' = true)
    (h63 : n + m ≤ maxLen) (hbytes : (n + m) * bytes ≤ 140737488355328)
    (h : ∀ v' w', w'.ownsRow 0 e size v' (n + m) (xs ++ news) → w.grownBy w' v.ownBlock → Moved w v v' → wpList P ops Q rest (a.put o.dst v') w') : wpList P ops Q (o :: rest) a w :=
  wpList_plain hgd fun _ hK => wp_append_own2 s x t ho e i z size bytes ht hi hz hsize hby hzs hsz v n xs hs hown ad m c news hx hl hnews h1 h63 hbytes fun v' w' h2 h3 h4 => hK _ _ (h v' w' h2 h3 h4)

/-- append onto an owned row, as one step of a region that draws its order. -/
theorem step_append_own {P : Program} {ops : Array Oper} {o : Oper} {a : Act} {w : World} {K : Act → World → Prop} {Q : Exit → Act → World → Prop} {E : Prop}
    (hg : o.guard = none) (s x : Operand) (t : TypeId) (hop : o.op = Op.call { callee := Callee.builtin Builtin.append, args := #[s, x], argTypes := #[t, t] })
    (e : TypeId) (i : TypeInfo) (z : Value) (size bytes : Nat) (ht : P.underlying t = some (.slice e)) (hi : P.info? e = some i) (hz : i.zero = some z)
    (hsize : i.size = size) (hby : i.bytes = bytes) (hzs : z.cells.size = size) (hsz : 0 < size)
    (v : Value) (n : Nat) (xs : List Value) (hs : a.eval s = v) (hown : w.ownsRow 0 e size v n xs)
    (ad : Addr) (m c : Nat) (news : List Value) (hx : a.eval x = .slice (some ad) m c) (hl : news.length = m * size) (hnews : ∀ j u, news[j]? = some u → w.cell? (ad.add j) = some u) (h1 : ∀ u ∈ news, u.oneCell' = true)
    (h63 : n + m ≤ maxLen) (hbytes : (n + m) * bytes ≤ 140737488355328)
    (h : ∀ v' w', w'.ownsRow 0 e size v' (n + m) (xs ++ news) → w.grownBy w' v.ownBlock → Moved w v v' → K (a.put o.dst v') w') :
    if Region.wanted o (yielded ops a.tmps) = true then Oper.wp P o a w K Q else E := by
  have hw : Region.wanted o (yielded ops a.tmps) = true := by simp [Region.wanted, hg]
  rw [if_pos hw]
  exact wp_append_own2 s x t hop e i z size bytes ht hi hz hsize hby hzs hsz v n xs hs hown ad m c news hx hl hnews h1 h63 hbytes h

theorem ownsRow_form {w : World} {base : Nat} {e : TypeId} {size : Nat} {v : Value} {n : Nat} {xs : List Value} (h : w.ownsRow base e size v n xs) (hn : 0 < n) :
    ∃ ab cap, v = .slice (some ⟨ab, 0, none⟩) n cap := by
  rcases h.2 with ⟨_, h0⟩ | ⟨g, cap, cur, rfl, _⟩
  · omega
  · exact ⟨g, cap, rfl⟩

/-- A ticket's five cells. -/
def tkCells (t : Tg.Tk) : List Value := [.int .i64 t.weight, .int .i64 t.band, .int .i64 t.till, .int .i64 t.count, .int .i64 t.state]
def tksCells : List Tg.Tk → List Value
  | [] => []
  | t :: r => tkCells t ++ tksCells r

theorem tksCells_length (l : List Tg.Tk) : (tksCells l).length = l.length * 5 := by
  induction l with
  | nil => rfl
  | cons t r ih => simp only [tksCells, List.length_append, ih, List.length_cons]; simp [tkCells]; omega

theorem tksCells_append (a b : List Tg.Tk) : tksCells (a ++ b) = tksCells a ++ tksCells b := by
  induction a with
  | nil => rfl
  | cons t r ih => simp [tksCells, ih]

theorem tksCells_at (l : List Tg.Tk) (k f : Nat) (hk : k < l.length) (hf : f < 5) : (tksCells l)[k * 5 + f]? = (tkCells l[k])[f]? := by
  induction l generalizing k with
  | nil => simp at hk
  | cons t r ih =>
    cases k with
    | zero =>
      simp only [tksCells, Nat.zero_mul, Nat.zero_add, List.getElem_cons_zero]
      rw [List.getElem?_append_left (by simp [tkCells]; omega)]
    | succ k =>
      simp only [tksCells, List.getElem_cons_succ]
      rw [List.getElem?_append_right (by simp [tkCells]; omega)]
      rw [← ih k (by simpa using hk)]
      congr 1
      simp [tkCells]; omega

theorem tksCells_modify (l : List Tg.Tk) (k f : Nat) (u : Tg.Tk → Tg.Tk) (x : Value) (hk : k < l.length) (hf : f < 5) (hu : tkCells (u l[k]) = (tkCells l[k]).set f x) : tksCells (l.modify k u) = (tksCells l).set (k * 5 + f) x := by
  induction l generalizing k with
  | nil => simp at hk
  | cons t r ih =>
    cases k with
    | zero =>
      simp only [List.getElem_cons_zero] at hu
      simp only [List.modify_zero_cons, tksCells, Nat.zero_mul, Nat.zero_add, hu]
      rw [List.set_append_left _ _ (by simp [tkCells]; omega)]
    | succ k =>
      simp only [List.getElem_cons_succ] at hu
      simp only [List.modify_succ_cons, tksCells]
      rw [ih k (by simpa using hk) hu, List.set_append_right _ _ (by simp [tkCells]; omega)]
      congr 2
      simp [tkCells]; omega

/-- The document's gate in memory: at the head of a block of its own; its list owned. -/
structure RG (w : World) (b : Nat) (g : Tg.Gt) (v : Value) : Prop where
  blk : w.heap[b]? = some (.cells #[.int .i64 g.room, .int .i64 g.pass, .int .i64 g.time, v] 125 (0, 0))
  row : w.ownsRow 0 127 5 v g.all.length (tksCells g.all)

/-- The blocks that it is made of. -/
def RGs (b : Nat) (v : Value) (k : Nat) : Prop := k = b ∨ v.ownBlock = some k

section
variable {w w' : World} {b : Nat} {g : Tg.Gt} {v : Value}
theorem RG.c0 (h : RG w b g v) : w.cell? ⟨b, 0, none⟩ = some (.int .i64 g.room) := by simp [World.cell?, h.blk]
theorem RG.c1 (h : RG w b g v) : w.cell? ⟨b, 1, none⟩ = some (.int .i64 g.pass) := by simp [World.cell?, h.blk]
theorem RG.c2 (h : RG w b g v) : w.cell? ⟨b, 2, none⟩ = some (.int .i64 g.time) := by simp [World.cell?, h.blk]
theorem RG.c3 (h : RG w b g v) : w.cell? ⟨b, 3, none⟩ = some v := by simp [World.cell?, h.blk]
theorem RG.fr (h : RG w b g v) (o : Nat) : w.frozen? ⟨b, o, none⟩ = false := by simp [World.frozen?, h.blk]

theorem RG.form (h : RG w b g v) :
    ∃ ao cap, v = .slice ao g.all.length cap ∧ ∀ k, k < g.all.length → ∃ ab, ao = some ⟨ab, 0, none⟩ := by
  rcases h.row.2 with ⟨rfl, hn⟩ | ⟨ab, cap, cur, rfl, _, _, hl, hm, _⟩
  · exact ⟨none, 0, by rw [hn], fun k hk => absurd hk (by omega)⟩
  · exact ⟨_, cap, rfl, fun k hk => ⟨ab, rfl⟩⟩

theorem RG.ne (h : RG w b g v) : v.ownBlock ≠ some b := by
  intro e
  rcases h.row.2 with ⟨rfl, hn⟩ | ⟨ab, cap, cur, rfl, _, hh, _⟩
  · simp [Value.ownBlock] at e
  · simp [Value.ownBlock] at e
    subst e
    have := h.blk
    rw [hh] at this
    simp at this

theorem RG.lt (h : RG w b g v) : ∀ k, RGs b v k → k < w.heap.size := by
  intro k hk
  rcases hk with rfl | hk
  · exact lt_of_block h.blk
  · exact (h.row.lt k hk).2

theorem RG.keep (h : RG w b g v) (hs : ∀ k, RGs b v k → w'.heap[k]? = w.heap[k]?) : RG w' b g v := by
  refine ⟨(hs b (Or.inl rfl)).trans h.blk, h.row.1, ?_⟩
  rcases h.row.2 with hn | ⟨ab, cap, cur, rfl, hb, hh, r⟩
  · exact Or.inl hn
  · exact Or.inr ⟨ab, cap, cur, rfl, hb, (hs ab (Or.inr rfl)).trans hh, r⟩

theorem RG.at (h : RG w b g v) {ab n cap : Nat} (hv : v = .slice (some ⟨ab, 0, none⟩) n cap) (k f : Nat) (hk : k < g.all.length) (hf : f < 5) :
    w.cell? ⟨ab, k * 5 + f, none⟩ = (tkCells g.all[k])[f]? := by
  subst hv
  have hx := h.row.cells (g := ab) rfl (k * 5 + f)
  rw [tksCells_at _ _ _ hk hf] at hx
  have he : (tkCells g.all[k])[f]? = some ((tkCells g.all[k])[f]'(by simp [tkCells]; omega)) := List.getElem?_eq_getElem _
  have hy := hx _ he
  rw [Addr.add_lit] at hy
  rw [he]
  simpa using hy

theorem RG.frow (h : RG w b g v) {ab n cap : Nat} (hv : v = .slice (some ⟨ab, 0, none⟩) n cap) (j : Nat) : w.frozen? ⟨ab, j, none⟩ = false := by
  subst hv
  rcases h.row.2 with ⟨h', _⟩ | ⟨g', cap', cur, h', _, hg, _⟩
  · simp at h'
  · simp only [Value.slice.injEq, Option.some.injEq, Addr.mk.injEq, and_true] at h'
    obtain ⟨rfl, _⟩ := h'
    exact frozen_of_row w _ j cur _ hg

/-- A store into a ticket's field. -/
theorem RG.put (h : RG w b g v) {ab n cap : Nat} (hv : v = .slice (some ⟨ab, 0, none⟩) n cap) (k f : Nat) (u : Tg.Tk → Tg.Tk) (x : Value) (hk : k < g.all.length) (hf : f < 5)
    (hu : tkCells (u g.all[k]) = (tkCells g.all[k]).set f x) : RG (w.setCell ⟨ab, k * 5 + f, none⟩ x) b { g with all := g.all.modify k u } v := by
  have hne : b ≠ ab := fun e => h.ne (by subst hv; simp [Value.ownBlock, e])
  refine ⟨?_, ?_⟩
  · rw [Below.heap_setCell _ _ _ _ hne]; exact h.blk
  · have hr := h.row
    obtain ⟨ao', cap', hv', _⟩ := h.form
    obtain rfl : n = g.all.length := by rw [hv] at hv'; simp at hv'; exact hv'.2.1
    subst hv
    have := (hr.stored (k * 5 + f) x).1
    rw [← tksCells_modify g.all k f u x hk hf hu] at this
    simpa using this

theorem RG.time (h : RG w b g v) (x : Int) : RG (w.setCell ⟨b, 2, none⟩ (.int .i64 x)) b { g with time := x } v := by
  refine ⟨?_, ownsRow_setCell_other h.row h.ne _⟩
  exact heap_setCell_same w b 2 _ _ _ h.blk

theorem RG.room (h : RG w b g v) (x : Int) : RG (w.setCell ⟨b, 0, none⟩ (.int .i64 x)) b { g with room := x } v := by
  refine ⟨?_, ownsRow_setCell_other h.row h.ne _⟩
  exact heap_setCell_same w b 0 _ _ _ h.blk

theorem RG.alloc (h : RG w b g v) (o : Obj) : RG (w.alloc o) b g v := h.keep fun k hk => Below.heap_alloc _ _ _ (h.lt k hk)

/-- The list has grown: what the store into the field leaves. -/
theorem RG.app (h : RG w b g v) {v' : Value} {t : Tg.Tk} (ho : w'.ownsRow 0 127 5 v' (g.all.length + 1) (tksCells g.all ++ tkCells t)) (hg : w.grownBy w' v.ownBlock) :
    w'.cell? ⟨b, 3, none⟩ = some v ∧ w'.frozen? ⟨b, 3, none⟩ = false ∧ RG (w'.setCell ⟨b, 3, none⟩ v') b { g with all := g.all ++ [t] } v' := by
  have hb : w'.heap[b]? = some (.cells #[.int .i64 g.room, .int .i64 g.pass, .int .i64 g.time, v] 125 (0, 0)) :=
    (hg.block b (h.lt b (Or.inl rfl)) (fun e => h.ne e.symm)).trans h.blk
  have hne : v'.ownBlock ≠ some b := by
    intro e
    rcases ho.2 with ⟨rfl, _⟩ | ⟨ab, cap, cur, rfl, _, hh, _⟩
    · simp [Value.ownBlock] at e
    · simp [Value.ownBlock] at e
      subst e
      rw [hh] at hb
      simp at hb
  refine ⟨by simp [World.cell?, hb], by simp [World.frozen?, hb], ?_, ?_⟩
  · exact heap_setCell_same w' b 3 _ _ _ hb
  · have := ownsRow_setCell_other ho (a := ⟨b, 3, none⟩) hne v'
    have e : tksCells (g.all ++ [t]) = tksCells g.all ++ tkCells t := by rw [tksCells_append]; simp [tksCells]
    simpa [e] using this

theorem RG.tch {S : Nat → Prop} (h : RG w b g v) (ht : Tch S w w') (hs : ∀ k, RGs b v k → ¬ S k) : RG w' b g v :=
  h.keep fun k hk => ht.block k (h.lt k hk) (hs k hk)
theorem RG.drewN (h : RG w b g v) (n : Nat) : RG (w.drewN n) b g v := h.keep fun _ _ => rfl
theorem RG.drew (h : RG w b g v) : RG w.drew b g v := h.keep fun _ _ => rfl
end

end Go.Proofs.Ytekjgjhhjlcoaaa
