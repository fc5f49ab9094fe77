import Derived.Test.YtekjgjhhjlcoaaaLawQ
namespace Go.Proofs.Ytekjgjhhjlcoaaa
open Go.RowKit

attribute [local go_sem] alloc_drewN setCell_drewN

theorem Try.infoInts : (Try.prog.info? 40).map (fun i => (i.zero, i.size, i.bytes)) = some (some (.slice none 0 0), 1, 24) := by kernel_rfl

/-- The lists that came out, as the law keeps them: each with its mark. -/
structure LI (N : Nat) (w : World) (nv kv : Value) (ls : List (Value × Int)) : Prop where
  nrow : w.ownsRow 0 40 1 nv ls.length (ls.map (·.1))
  krow : w.ownsRow 0 3 1 kv ls.length (ls.map fun e => .int .i64 e.2)
  ents : ∀ e ∈ ls, Mks w e.1 e.2
  elow : ∀ e ∈ ls, ∀ k, e.1.ownBlock = some k → N ≤ k
  nlow : ∀ k, nv.ownBlock = some k → N ≤ k
  klow : ∀ k, kv.ownBlock = some k → N ≤ k
  apart : ∀ e ∈ ls, ∀ k, e.1.ownBlock = some k → kv.ownBlock ≠ some k

theorem Mks.row {w w0 : World} {v : Value} {m : Int} {n : Nat} {xs : List Value} (h : Mks w v m) (h0 : w0.ownsRow 0 3 1 v n xs) : w.ownsRow 0 3 1 v n (List.replicate n (.int .i64 m)) := by
  obtain ⟨k, hk⟩ := h
  have e : k = n := by
    obtain ⟨_, _, e1⟩ := row_form hk
    obtain ⟨_, _, e2⟩ := row_form h0
    rw [e1] at e2
    simp at e2
    exact e2.2.1
  rw [← e]; exact hk

/-- What is behind the dots of an append, laid new: marks. -/
theorem marks_at {w : World} {m : Int} (c : Nat) {cs : Array Value} (h : cs.toList = List.replicate c (.int .i64 m)) : ∀ j, j < c → (w.alloc (.cells cs 3)).cell? ((⟨w.heap.size, 0, none⟩ : Addr).add j) = some (.int .i64 m) := by
  intro j hj
  rw [Addr.add_lit, World.cell?_alloc_at _ _ _ _ (by simp)]
  have : cs.toList[j]? = some (.int .i64 m) := by rw [h, List.getElem?_replicate, if_pos hj]
  simpa using this

/-- While the caller writes its list full: its lists hold the mark; of the old blocks its own alone is touched. -/
structure Own (w0 w : World) (b : Option Nat) (vs : List Value) (m : Int) : Prop where
  mks : ∀ v ∈ vs, Mks w v m
  blk : ∀ v ∈ vs, ∀ k, v.ownBlock = some k → b = some k ∨ w0.heap.size ≤ k
  tch : Tch (fun j => b = some j) w0 w

theorem Own.app {w0 w w' : World} {b : Option Nat} {vs : List Value} {m : Int} {v v' : Value} {n : Nat} (O : Own w0 w b vs m) (o : Obj) (hv : v.ownBlock = b) (ho : w'.ownsRow 0 3 1 v' n (List.replicate n (.int .i64 m)))
    (hg : (w.alloc o).grownBy w' v.ownBlock) (hm : Moved (w.alloc o) v v') (hk : ∀ u, Mks (w.alloc o) u m → Mks w' u m) : Own w0 w' b (vs ++ [v']) m := by
  refine ⟨fun u hu => ?_, fun u hu k hk' => ?_, Tch.grown (O.tch.alloc o) hg (fun k hk' => Or.inl (by rw [← hv]; exact hk'))⟩
  · rcases List.mem_append.1 hu with x | x
    · exact hk u ((O.mks u x).keep fun k hk' => Below.heap_alloc _ _ _ ((O.mks u x).lt hk'))
    · simp at x; subst x; exact ⟨n, ho⟩
  · rcases List.mem_append.1 hu with x | x
    · exact O.blk u x k hk'
    · simp at x; subst x
      rcases hm with y | ⟨j, y, z⟩
      · left; rw [← hv, ← y]; exact hk'
      · right
        rw [y] at hk'; simp at hk'
        have := O.tch.size
        simp at z; omega

theorem row_blk {w : World} {base : Nat} {e : TypeId} {size : Nat} {v : Value} {n : Nat} {xs : List Value} (h : w.ownsRow base e size v n xs) {k : Nat} (hk : v.ownBlock = some k) : ∃ cur, w.heap[k]? = some (.cells cur e (0, 0)) := by
  rcases h.2 with ⟨rfl, _⟩ | ⟨g, cap, cur, rfl, _, hh, _⟩
  · simp [Value.ownBlock] at hk
  · simp [Value.ownBlock] at hk; subst hk; exact ⟨cur, hh⟩

theorem Mks.blk {w : World} {v : Value} {m : Int} (h : Mks w v m) {k : Nat} (hk : v.ownBlock = some k) : ∃ cur, w.heap[k]? = some (.cells cur 3 (0, 0)) := by
  obtain ⟨n, hn⟩ := h
  exact row_blk hn hk

theorem LI.keep {N : Nat} {w w' : World} {nv kv : Value} {ls : List (Value × Int)} (L : LI N w nv kv ls) (hn : ∀ k, nv.ownBlock = some k → w'.heap[k]? = w.heap[k]?) (hk : ∀ k, kv.ownBlock = some k → w'.heap[k]? = w.heap[k]?)
    (he : ∀ e ∈ ls, ∀ k, e.1.ownBlock = some k → w'.heap[k]? = w.heap[k]?) : LI N w' nv kv ls :=
  ⟨ownsRow_keep L.nrow hn, ownsRow_keep L.krow hk, fun e h => (L.ents e h).keep (he e h), L.elow, L.nlow, L.klow, L.apart⟩

/-- The world's block is none of the lists'. -/
theorem LI.off {N : Nat} {w : World} {nv kv : Value} {ls : List (Value × Int)} (L : LI N w nv kv ls) {wb : Nat} {cs : Array Value} (hb : w.heap[wb]? = some (.cells cs 76 (0, 0))) :
    nv.ownBlock ≠ some wb ∧ kv.ownBlock ≠ some wb ∧ (∀ e ∈ ls, e.1.ownBlock ≠ some wb) ∧ (∀ k, nv.ownBlock = some k → kv.ownBlock ≠ some k) ∧ (∀ e ∈ ls, ∀ k, e.1.ownBlock = some k → nv.ownBlock ≠ some k) := by
  refine ⟨fun e => ?_, fun e => ?_, fun x hx e => ?_, fun k h1 h2 => ?_, fun x hx k h1 h2 => ?_⟩
  · obtain ⟨cur, h⟩ := row_blk L.nrow e
    rw [hb] at h; simp at h
  · obtain ⟨cur, h⟩ := row_blk L.krow e
    rw [hb] at h; simp at h
  · obtain ⟨cur, h⟩ := (L.ents x hx).blk e
    rw [hb] at h; simp at h
  · obtain ⟨c1, e1⟩ := row_blk L.nrow h1
    obtain ⟨c2, e2⟩ := row_blk L.krow h2
    rw [e1] at e2; simp at e2
  · obtain ⟨c1, e1⟩ := (L.ents x hx).blk h1
    obtain ⟨c2, e2⟩ := row_blk L.nrow h2
    rw [e1] at e2; simp at e2

/-- Four lists more: the row of lists. -/
theorem LI.nsStep {N : Nat} {w w4 : World} {wb : Nat} {lv nv kv nv' : Value} {ls news : List (Value × Int)} (L : LI N w nv kv ls) (hb : w.heap[wb]? = some (.cells #[lv, nv, kv] 76 (0, 0))) (hN : N ≤ w.heap.size)
    (hn : ∀ e ∈ news, Mks w e.1 e.2) (o : Obj) (n : Nat) (ho : w4.ownsRow 0 40 1 nv' n (ls.map (·.1) ++ news.map (·.1))) (hg : (w.alloc o).grownBy w4 nv.ownBlock) (hm : Moved (w.alloc o) nv nv') :
    w4.cell? ⟨wb, 1, none⟩ = some nv ∧ w4.frozen? ⟨wb, 1, none⟩ = false ∧ (w4.setCell ⟨wb, 1, none⟩ nv').heap[wb]? = some (.cells #[lv, nv', kv] 76 (0, 0)) ∧
    (w4.setCell ⟨wb, 1, none⟩ nv').ownsRow 0 40 1 nv' n (ls.map (·.1) ++ news.map (·.1)) ∧ (w4.setCell ⟨wb, 1, none⟩ nv').ownsRow 0 3 1 kv ls.length (ls.map fun e => .int .i64 e.2) ∧
    (∀ e ∈ ls ++ news, Mks (w4.setCell ⟨wb, 1, none⟩ nv') e.1 e.2) ∧ (∀ k, nv'.ownBlock = some k → N ≤ k) ∧ Tch (fun k => k = wb ∨ nv.ownBlock = some k) w (w4.setCell ⟨wb, 1, none⟩ nv') := by
  obtain ⟨o1, o2, o3, o4, o5⟩ := L.off hb
  have keep : ∀ k, k < w.heap.size → nv.ownBlock ≠ some k → w4.heap[k]? = w.heap[k]? := fun k hk hne => (hg.block k (by simp; omega) (fun e => hne e.symm)).trans (Below.heap_alloc _ _ _ hk)
  have keep5 : ∀ k, k < w.heap.size → nv.ownBlock ≠ some k → k ≠ wb → (w4.setCell ⟨wb, 1, none⟩ nv').heap[k]? = w.heap[k]? := fun k hk hne hw => by
    rw [Below.heap_setCell _ _ _ _ hw]; exact keep k hk hne
  have hbw : w4.heap[wb]? = some (.cells #[lv, nv, kv] 76 (0, 0)) := (keep wb (lt_of_block hb) o1).trans hb
  have hne : nv'.ownBlock ≠ some wb := by
    intro e
    obtain ⟨cur, h⟩ := row_blk ho e
    rw [hbw] at h; simp at h
  refine ⟨by simp [World.cell?, hbw], by simp [World.frozen?, hbw], heap_setCell_same w4 wb 1 _ _ _ hbw, ownsRow_setCell_other ho (a := ⟨wb, 1, none⟩) hne nv', ?_, fun e he => ?_, fun k hk => ?_, ?_⟩
  · exact ownsRow_keep L.krow fun k hk => keep5 k (L.krow.lt k hk).2 (fun e => o4 k e hk) (fun e => o2 (by rw [← e]; exact hk))
  · rcases List.mem_append.1 he with x | x
    · exact (L.ents e x).keep fun k hk => keep5 k ((L.ents e x).lt hk) (o5 e x k hk) (fun e' => o3 e x (by rw [← e']; exact hk))
    · refine (hn e x).keep fun k hk => keep5 k ((hn e x).lt hk) (fun e' => ?_) (fun e' => ?_)
      · obtain ⟨c1, e1⟩ := (hn e x).blk hk
        obtain ⟨c2, e2⟩ := row_blk L.nrow e'
        rw [e1] at e2; simp at e2
      · obtain ⟨c1, e1⟩ := (hn e x).blk hk
        rw [e', hb] at e1; simp at e1
  · rcases hm with y | ⟨j, y, z⟩
    · exact L.nlow k (by rw [← y]; exact hk)
    · rw [y] at hk; simp at hk; simp at z; omega
  · exact (Tch.grown (S := fun k => k = wb ∨ nv.ownBlock = some k) ((Tch.refl _ _).alloc o) hg (fun k hk => Or.inl (Or.inr hk))).setCell (p := ⟨wb, 1, none⟩) (Or.inl (Or.inl rfl)) _

/-- .. and the row of marks. -/
theorem LI.knStep {N : Nat} {w w6 : World} {wb : Nat} {lv nv kv kv' : Value} {es : List (Value × Int)} {ks : List Value} {n0 : Nat} (hN : N ≤ w.heap.size) (hb : w.heap[wb]? = some (.cells #[lv, nv, kv] 76 (0, 0)))
    (hnr : w.ownsRow 0 40 1 nv es.length (es.map (·.1))) (hkr : w.ownsRow 0 3 1 kv n0 ks) (he : ∀ e ∈ es, Mks w e.1 e.2) (elow : ∀ e ∈ es, ∀ k, e.1.ownBlock = some k → N ≤ k) (nlow : ∀ k, nv.ownBlock = some k → N ≤ k) (klow : ∀ k, kv.ownBlock = some k → N ≤ k)
    (ap : ∀ e ∈ es, ∀ k, e.1.ownBlock = some k → kv.ownBlock ≠ some k) (o : Obj) (n : Nat) (hlen : n = es.length) (ho : w6.ownsRow 0 3 1 kv' n (es.map fun e => .int .i64 e.2)) (hg : (w.alloc o).grownBy w6 kv.ownBlock) (hm : Moved (w.alloc o) kv kv') :
    w6.cell? ⟨wb, 2, none⟩ = some kv ∧ w6.frozen? ⟨wb, 2, none⟩ = false ∧ (w6.setCell ⟨wb, 2, none⟩ kv').heap[wb]? = some (.cells #[lv, nv, kv'] 76 (0, 0)) ∧
    LI N (w6.setCell ⟨wb, 2, none⟩ kv') nv kv' es ∧ Tch (fun k => k = wb ∨ kv.ownBlock = some k) w (w6.setCell ⟨wb, 2, none⟩ kv') := by
  have o2 : kv.ownBlock ≠ some wb := fun e => by
    obtain ⟨cur, h⟩ := row_blk hkr e
    rw [hb] at h; simp at h
  have keep : ∀ k, k < w.heap.size → kv.ownBlock ≠ some k → w6.heap[k]? = w.heap[k]? := fun k hk hne => (hg.block k (by simp; omega) (fun e => hne e.symm)).trans (Below.heap_alloc _ _ _ hk)
  have keep5 : ∀ k, k < w.heap.size → kv.ownBlock ≠ some k → k ≠ wb → (w6.setCell ⟨wb, 2, none⟩ kv').heap[k]? = w.heap[k]? := fun k hk hne hw => by
    rw [Below.heap_setCell _ _ _ _ hw]; exact keep k hk hne
  have hbw : w6.heap[wb]? = some (.cells #[lv, nv, kv] 76 (0, 0)) := (keep wb (lt_of_block hb) o2).trans hb
  have hne : kv'.ownBlock ≠ some wb := by
    intro e
    obtain ⟨cur, h⟩ := row_blk ho e
    rw [hbw] at h; simp at h
  subst hlen
  refine ⟨by simp [World.cell?, hbw], by simp [World.frozen?, hbw], heap_setCell_same w6 wb 2 _ _ _ hbw, ⟨?_, ownsRow_setCell_other ho (a := ⟨wb, 2, none⟩) hne kv', fun e h => ?_, elow, nlow, fun k hk => ?_, fun e h k hk => ?_⟩, ?_⟩
  · refine ownsRow_keep hnr fun k hk => keep5 k (hnr.lt k hk).2 (fun e => ?_) (fun e => ?_)
    · obtain ⟨c1, e1⟩ := row_blk hnr hk
      obtain ⟨c2, e2⟩ := row_blk hkr e
      rw [e1] at e2; simp at e2
    · obtain ⟨c1, e1⟩ := row_blk hnr hk
      rw [e, hb] at e1; simp at e1
  · refine (he e h).keep fun k hk => keep5 k ((he e h).lt hk) (ap e h k hk) (fun e' => ?_)
    obtain ⟨c1, e1⟩ := (he e h).blk hk
    rw [e', hb] at e1; simp at e1
  · rcases hm with y | ⟨j, y, z⟩
    · exact klow k (by rw [← y]; exact hk)
    · rw [y] at hk; simp at hk; simp at z; omega
  · intro e'
    rcases hm with y | ⟨j, y, z⟩
    · exact ap e h k hk (by rw [← y]; exact e')
    · rw [y] at e'; simp at e'; simp at z
      have := (he e h).lt hk
      omega
  · exact (Tch.grown (S := fun k => k = wb ∨ kv.ownBlock = some k) ((Tch.refl _ _).alloc o) hg (fun k hk => Or.inl (Or.inr hk))).setCell (p := ⟨wb, 2, none⟩) (Or.inl (Or.inl rfl)) _

theorem row_frozen {w : World} {base : Nat} {e : TypeId} {size : Nat} {ab n cap : Nat} {xs : List Value} (h : w.ownsRow base e size (.slice (some ⟨ab, 0, none⟩) n cap) n xs) (j : Nat) : w.frozen? ⟨ab, j, none⟩ = false := by
  rcases h.2 with ⟨h', _⟩ | ⟨g', cap', cur, h', _, hg, _⟩
  · simp at h'
  · simp only [Value.slice.injEq, Option.some.injEq, Addr.mk.injEq, and_true] at h'
    obtain ⟨rfl, _⟩ := h'
    exact frozen_of_row w _ j cur _ hg

set_option maxRecDepth 20000 in
set_option maxHeartbeats 1000000 in
theorem own_any {N : Nat} {w : World} {wb : Nat} {lv nv kv v : Value} {ls : List (Value × Int)} (hb : w.heap[wb]? = some (.cells #[lv, nv, kv] 76 (0, 0)))
    (L : LI N w nv kv ls) (hN : N ≤ w.heap.size) (q : List Int) (hown : w.ownsRow 0 3 1 v q.length (ivs q)) (hq : q.length ≤ 3518437208883) (hls : ls.length ≤ 4000000000000)
    (vlow : ∀ k, v.ownBlock = some k → N ≤ k) (vk : ∀ k, v.ownBlock = some k → kv.ownBlock ≠ some k) (ve : ∀ e ∈ ls, ∀ k, e.1.ownBlock = some k → v.ownBlock ≠ some k) :
    Calls Try.prog 73 #[.pointer (some ⟨wb, 0, none⟩), v] w fun e w' => e = .returned (.tuple #[]) ∧ ∃ nv' kv' ls', ls'.length = ls.length + 4 ∧
      w'.heap[wb]? = some (.cells #[lv, nv', kv'] 76 (0, 0)) ∧ LI N w' nv' kv' ls' ∧ Tch (fun k => k = wb ∨ nv.ownBlock = some k ∨ kv.ownBlock = some k ∨ v.ownBlock = some k) w w' := by
  have c1 : w.cell? ⟨wb, 1, none⟩ = some nv := by simp [World.cell?, hb]
  obtain ⟨ao1, cap1, rfl⟩ := row_form L.nrow
  obtain ⟨i0, hi, hz0, hz1, hz2⟩ := info_parts Try.infoInt
  have HI : Hid (Try.prog.info? 3 = some i0 ∧ i0.zero = some (.int .i64 0) ∧ i0.size = 1 ∧ i0.bytes = 8) := hid ⟨hi, hz0, hz1, hz2⟩
  clear hi hz0 hz1 hz2
  obtain ⟨i1, hi, hz0, hz1, hz2⟩ := info_parts Try.infoInts
  have HJ : Hid (Try.prog.info? 40 = some i1 ∧ i1.zero = some (.slice none 0 0) ∧ i1.size = 1 ∧ i1.bytes = 24) := hid ⟨hi, hz0, hz1, hz2⟩
  clear hi hz0 hz1 hz2
  have hkind := fun k (hk : v.ownBlock = some k) => row_blk hown hk
  have hI := Ints.of_row hown
  obtain ⟨ao, cap, rfl, _, hcells⟩ := hI.form
  go_enter Try.func73, Try.ntmps73
  go_wp2
  generalize hm : (-1 - (ls.length : Int) / 4) = m
  have HM := hid hm
  clear hm
  go_loopg [5] q.length (fun r i wr => ∃ k : Nat, k + r = q.length ∧ i = .int .i64 k ∧ wr.ownsRow 0 3 1 (.slice ao q.length cap) q.length (List.replicate k (.int .i64 m) ++ (ivs q).drop k) ∧ Tch (fun j => (Value.slice ao q.length cap).ownBlock = some j) w wr)
  case atStart => exact ⟨0, by omega, rfl, by simpa using hown, Tch.refl _ _⟩
  case round =>
    obtain ⟨k, hk, rfl, ho, ht⟩ := hrel
    by_cases hkl : k < q.length
    · obtain ⟨ab, rfl, _⟩ := hcells k hkl
      have ck : wr.cell? ⟨ab, k, none⟩ = some (.int .i64 q[k]) := by
        have := ho.cells (g := ab) rfl k (.int .i64 q[k]) (by
          rw [List.getElem?_append_right (by simp), List.getElem?_drop]
          simp [ivs, hkl])
        rw [Addr.add_lit] at this
        simpa using this
      have fk := row_frozen ho k
      have st := (ho.stored k (.int .i64 m)).1
      clear hown hcells
      go_wp2
      go_roundg (gk - 1)
      case rel =>
        refine ⟨k + 1, by omega, by go_num, ?_, ht.setCell (p := ⟨ab, k, none⟩) (Or.inl rfl) _⟩
        have e : (List.replicate k (Value.int .i64 m) ++ (ivs q).drop k).set k (.int .i64 m) = List.replicate (k + 1) (Value.int .i64 m) ++ (ivs q).drop (k + 1) := by
          rw [List.set_append_right _ _ (by simp)]
          simp only [List.length_replicate, Nat.sub_self]
          rw [List.drop_eq_getElem_cons (show k < (ivs q).length by simpa [ivs] using hkl), List.set_cons_zero, List.replicate_succ', List.append_assoc]
          rfl
        rw [e] at st
        exact st
      case measure => omega
    · have e : k = q.length := by omega
      have hdrop : (ivs q).drop k = [] := List.drop_of_length_le (by simp [ivs]; omega)
      rw [hdrop, List.append_nil, e] at ho
      clear hdrop hown hcells
      subst e
      have O0 : Own w wr (Value.slice ao q.length cap).ownBlock [.slice ao q.length cap] m := ⟨fun v hv => by simp at hv; subst hv; exact ⟨_, ho⟩, fun v hv k hk => by simp at hv; subst hv; exact Or.inl hk, ht⟩
      go_wp2_with (first | (at_builtin; refine wpList_append_marks rfl (.tmp 26) (.tmp 28) 40 rfl i0 _ Try.underlying40 HI.out.1 HI.out.2.1 HI.out.2.2.1 HI.out.2.2.2 rfl (.slice ao q.length cap) q.length m rfl ?c1 ⟨wr.heap.size, 0, none⟩ 1 1 rfl ?c2 ?c3 ?c4 ?_) | fail)
      case c1 => exact ownsRow_keep ho fun k hk => Below.heap_alloc _ _ _ (ho.lt k hk).2
      case c2 => exact marks_at 1 rfl
      case c3 => unfold maxLen; omega
      case c4 => omega
      intro gv w1 ho1 hg1 hm1 hk1
      have O1 := O0.app _ rfl ho1 hg1 hm1 hk1
      have hl1 : w1.ownsRow 0 3 1 (.slice ao q.length cap) q.length (List.replicate q.length (.int .i64 m)) := (O1.mks _ (by simp)).row ho
      obtain ⟨ao2, cap2, rfl⟩ := row_form ho1
      clear ho1 hg1 hm1 hk1 O0
      go_wp2_with (first | (at_builtin; refine wpList_append_marks rfl (.tmp 30) (.tmp 33) 40 rfl i0 _ Try.underlying40 HI.out.1 HI.out.2.1 HI.out.2.2.1 HI.out.2.2.2 rfl (.slice ao q.length cap) q.length m rfl ?d1 ⟨w1.heap.size, 0, none⟩ 2 2 rfl ?d2 ?d3 ?d4 ?_) | fail)
      case d1 => exact ownsRow_keep hl1 fun k hk => Below.heap_alloc _ _ _ (hl1.lt k hk).2
      case d2 => exact marks_at 2 rfl
      case d3 => unfold maxLen; omega
      case d4 => omega
      intro gv w2 ho2 hg2 hm2 hk2
      have O2 := O1.app _ rfl ho2 hg2 hm2 hk2
      have hl2 : w2.ownsRow 0 3 1 (.slice ao q.length cap) q.length (List.replicate q.length (.int .i64 m)) := (O2.mks _ (by simp)).row ho
      obtain ⟨ao3, cap3, rfl⟩ := row_form ho2
      clear ho2 hg2 hm2 hk2 O1 hl1
      go_wp2_with (first | (at_builtin; refine wpList_append_marks rfl (.tmp 35) (.tmp 39) 40 rfl i0 _ Try.underlying40 HI.out.1 HI.out.2.1 HI.out.2.2.1 HI.out.2.2.2 rfl (.slice ao q.length cap) q.length m rfl ?e1 ⟨w2.heap.size, 0, none⟩ 3 3 rfl ?e2 ?e3 ?e4 ?_) | fail)
      case e1 => exact ownsRow_keep hl2 fun k hk => Below.heap_alloc _ _ _ (hl2.lt k hk).2
      case e2 => exact marks_at 3 rfl
      case e3 => unfold maxLen; omega
      case e4 => omega
      intro gv w3 ho3 hg3 hm3 hk3
      have O3 := O2.app _ rfl ho3 hg3 hm3 hk3
      obtain ⟨ao4, cap4, rfl⟩ := row_form ho3
      clear ho3 hg3 hm3 hk3 O2 hl2
      simp only [List.cons_append, List.nil_append] at O3
      have O3b := O3.blk
      have nb : (Value.slice ao q.length cap).ownBlock ≠ some wb := fun e => by
        obtain ⟨cur, h⟩ := hkind wb e
        rw [hb] at h; simp at h
      have hb3 : w3.heap[wb]? = some (.cells #[lv, .slice ao1 ls.length cap1, kv] 76 (0, 0)) := (O3.tch.block wb (lt_of_block hb) nb).trans hb
      have L3 : LI N w3 (.slice ao1 ls.length cap1) kv ls := by
        refine L.keep (fun k hk => O3.tch.block k (L.nrow.lt k hk).2 fun e => ?_) (fun k hk => O3.tch.block k (L.krow.lt k hk).2 fun e => vk k e hk) (fun e he k hk => O3.tch.block k ((L.ents e he).lt hk) (ve e he k hk))
        obtain ⟨c1, e1⟩ := row_blk L.nrow hk
        obtain ⟨c2, e2⟩ := hkind k e
        rw [e1] at e2; simp at e2
      have hn3 : ∀ e ∈ ([(.slice ao q.length cap, m), (.slice ao2 (q.length + 1) cap2, m), (.slice ao3 (q.length + 2) cap3, m), (.slice ao4 (q.length + 3) cap4, m)] : List (Value × Int)), Mks w3 e.1 e.2 := by
        intro e he
        simp at he
        rcases he with rfl | rfl | rfl | rfl
        · exact O3.mks _ (by simp)
        · exact O3.mks _ (by simp)
        · exact O3.mks _ (by simp)
        · exact O3.mks _ (by simp)
      have hn3b : ∀ e ∈ ([(.slice ao q.length cap, m), (.slice ao2 (q.length + 1) cap2, m), (.slice ao3 (q.length + 2) cap3, m), (.slice ao4 (q.length + 3) cap4, m)] : List (Value × Int)), ∀ k, e.1.ownBlock = some k → (Value.slice ao q.length cap).ownBlock = some k ∨ w.heap.size ≤ k := by
        intro e he
        simp at he
        rcases he with rfl | rfl | rfl | rfl
        · exact O3b _ (by simp)
        · exact O3b _ (by simp)
        · exact O3b _ (by simp)
        · exact O3b _ (by simp)
      have hz3 := O3.tch.size
      have T3 : Tch (fun k => k = wb ∨ (Value.slice ao1 ls.length cap1).ownBlock = some k ∨ kv.ownBlock = some k ∨ (Value.slice ao q.length cap).ownBlock = some k) w w3 := O3.tch.mono fun k hk => Or.inr (Or.inr (Or.inr hk))
      have c13 : w3.cell? ⟨wb, 1, none⟩ = some (.slice ao1 ls.length cap1) := by simp [World.cell?, hb3]
      have hkl0 := L.krow.lt
      have hnl0 := L.nrow.lt
      have HN3 := hid hn3
      have HN3b := hid hn3b
      clear O3 O3b L hn3 hn3b ve hb c1 hI ho ht
      go_wp2_with (first | (at_builtin; refine wpList_append_own2 rfl (.tmp 45) (.tmp 50) 74 rfl 40 i1 (.slice none 0 0) 1 24 Try.underlying74 HJ.out.1 HJ.out.2.1 HJ.out.2.2.1 HJ.out.2.2.2 rfl (by decide) (.slice ao1 ls.length cap1) ls.length (ls.map (·.1)) rfl ?f1 ⟨w3.heap.size, 0, none⟩ 4 4 [.slice ao q.length cap, .slice ao2 (q.length + 1) cap2, .slice ao3 (q.length + 2) cap3, .slice ao4 (q.length + 3) cap4] rfl rfl ?f2 ?f3 ?f4 ?f5 ?_) | fail)
      case f1 => exact ownsRow_keep L3.nrow fun k hk => Below.heap_alloc _ _ _ (L3.nrow.lt k hk).2
      case f2 =>
        intro j u hj
        rw [Addr.add_lit, World.cell?_alloc_at _ _ _ _ (by simp)]
        simpa using hj
      case f3 => intro u hu; simp at hu; rcases hu with rfl | rfl | rfl | rfl <;> rfl
      case f4 => unfold maxLen; omega
      case f5 => omega
      intro nv' w4 ho4 hg4 hm4
      obtain ⟨p1, p2, p3, p4, p5, p6, p7, p8⟩ := L3.nsStep hb3 (by omega) HN3.out _ (ls.length + 4) ho4 hg4 hm4
      obtain ⟨ao5, cap5, rfl⟩ := row_form ho4
      obtain ⟨ao6, cap6, rfl⟩ := row_form L3.krow
      have klow := L3.klow
      have elow := L3.elow
      have eap := L3.apart
      have c25 : (w4.setCell ⟨wb, 1, none⟩ (.slice ao5 (ls.length + 4) cap5)).cell? ⟨wb, 2, none⟩ = some (.slice ao6 ls.length cap6) := by
        simp only [World.cell?, p3]; rfl
      clear ho4 hg4 hm4 L3 hb3 c13
      generalize hw5 : w4.setCell ⟨wb, 1, none⟩ (.slice ao5 (ls.length + 4) cap5) = w5 at *
      go_wp2_with (first | (at_builtin; refine wpList_append_own2 rfl (.tmp 58) (.tmp 63) 40 rfl 3 i0 (.int .i64 0) 1 8 Try.underlying40 HI.out.1 HI.out.2.1 HI.out.2.2.1 HI.out.2.2.2 rfl (by decide) (.slice ao6 ls.length cap6) ls.length (ls.map fun e => .int .i64 e.2) rfl ?g1 ⟨w5.heap.size, 0, none⟩ 4 4 [.int .i64 m, .int .i64 m, .int .i64 m, .int .i64 m] rfl rfl ?g2 ?g3 ?g4 ?g5 ?_) | fail)
      case g1 => exact ownsRow_keep p5 fun k hk => Below.heap_alloc _ _ _ (p5.lt k hk).2
      case g3 => rfl
      case g4 => unfold maxLen; omega
      case g5 => omega
      intro kv' w6 ho6 hg6 hm6
      have hz5 := p8.size
      have es : (ls ++ [(.slice ao q.length cap, m), (.slice ao2 (q.length + 1) cap2, m), (.slice ao3 (q.length + 2) cap3, m), (.slice ao4 (q.length + 3) cap4, m)] : List (Value × Int)).length = ls.length + 4 := by simp
      obtain ⟨r1, r2, r3, r4, r5⟩ := LI.knStep (N := N) (by omega) p3 (by rw [es, List.map_append]; exact p4) p5 p6 (by
          intro e he k hk
          rcases List.mem_append.1 he with x | x
          · exact elow e x k hk
          · rcases HN3b.out e x k hk with y | y
            · exact vlow k y
            · omega) p7 klow (by
          intro e he k hk hk2
          rcases List.mem_append.1 he with x | x
          · exact eap e x k hk hk2
          · rcases HN3b.out e x k hk with y | y
            · exact vk k y hk2
            · have := (hkl0 k hk2).2; omega) _ (ls.length + 4) es.symm (by rw [List.map_append]; exact ho6) hg6 hm6
      obtain ⟨ao7, cap7, rfl⟩ := row_form ho6
      clear ho6 hg6 hm6 p3 p4 p5 p6 c25
      go_wp2
      go_end0
      refine ⟨rfl, _, _, _, es, r3, r4, ?_⟩
      refine (T3.trans' p8 fun i hi => ?_).trans' r5 fun i hi => ?_
      · rcases hi with x | x
        · exact Or.inl (Or.inl x)
        · exact Or.inl (Or.inr (Or.inl x))
      · rcases hi with x | x
        · exact Or.inl (Or.inl x)
        · exact Or.inl (Or.inr (Or.inr (Or.inl x)))
end Go.Proofs.Ytekjgjhhjlcoaaa
