import Derived.Test.YtekjgjhhjlcoaaaRefQ
namespace Go.Proofs.Ytekjgjhhjlcoaaa
open Go.RowKit

/-- A list whose cells all hold one mark. -/
def Mks (w : World) (v : Value) (m : Int) : Prop := ∃ n, w.ownsRow 0 3 1 v n (List.replicate n (.int .i64 m))

theorem Mks.keep {w w' : World} {v : Value} {m : Int} (h : Mks w v m) (hs : ∀ k, v.ownBlock = some k → w'.heap[k]? = w.heap[k]?) : Mks w' v m := by
  obtain ⟨n, hn⟩ := h
  exact ⟨n, ownsRow_keep hn hs⟩

theorem Mks.lt {w : World} {v : Value} {m : Int} (h : Mks w v m) {k : Nat} (hk : v.ownBlock = some k) : k < w.heap.size := by
  obtain ⟨n, hn⟩ := h
  exact (hn.lt k hk).2

theorem replicate_add' {α : Type} (a b : Nat) (x : α) : List.replicate a x ++ List.replicate b x = List.replicate (a + b) x := by
  rw [← List.replicate_append_replicate]

theorem take_replicate_mid (cur : List Value) (x : Value) (n c n' : Nat) (hn : n' ≤ cur.length) (h : cur.take n' = List.replicate n' x) (hc : n + c ≤ cur.length) :
    (cur.take n ++ List.replicate c x ++ cur.drop (n + c)).take n' = List.replicate n' x := by
  have hg : ∀ i, i < n' → cur[i]? = some x := by
    intro i hi
    have := congrArg (fun l => l[i]?) h
    simpa [List.getElem?_take, hi, List.getElem?_replicate] using this
  apply List.ext_getElem?
  intro i
  by_cases hi : i < n'
  · rw [List.getElem?_take, if_pos hi, List.getElem?_replicate, if_pos hi]
    by_cases h1 : i < n
    · rw [List.append_assoc, List.getElem?_append_left (by simp; omega), List.getElem?_take, if_pos h1]
      exact hg i hi
    · by_cases h2 : i < n + c
      · rw [List.getElem?_append_left (by simp; omega), List.getElem?_append_right (by simp; omega), List.getElem?_replicate, if_pos (by simp; omega)]
      · rw [List.getElem?_append_right (by simp; omega), List.getElem?_drop]
        have e : n + c + (i - (cur.take n ++ List.replicate c x).length) = i := by simp; omega
        rw [e]
        exact hg i hi
  · rw [List.getElem?_take, if_neg hi, List.getElem?_replicate, if_neg hi]

/-- A mark behind a list of marks: every list of this mark stays one. -/
theorem run_append_marks {P : Program} (w : World) (t ty : TypeId) (i : TypeInfo) (z : Value) (ht : P.underlying t = some (.slice 3)) (hi : P.info? 3 = some i) (hz : i.zero = some z)
    (hsize : i.size = 1) (hby : i.bytes = 8) (hzs : z.cells.size = 1)
    (v : Value) (n : Nat) (x : Int) (hown : w.ownsRow 0 3 1 v n (List.replicate n (.int .i64 x)))
    (a : Addr) (m c : Nat) (hnews : ∀ j, j < m → w.cell? (a.add j) = some (.int .i64 x)) (h63 : n + m ≤ maxLen) (hbytes : (n + m) * 8 ≤ 140737488355328) :
    ∃ v' w', (Builtin.append_ #[t, t] ty #[v, .slice (some a) m c]).run P w = .ok v' w' ∧ w'.ownsRow 0 3 1 v' (n + m) (List.replicate (n + m) (.int .i64 x)) ∧ w.grownBy w' v.ownBlock ∧ Moved w v v' ∧
      ∀ u, Mks w u x → Mks w' u x := by
  have hnews' : ∀ j u, (List.replicate m (Value.int .i64 x))[j]? = some u → w.cell? (a.add j) = some u := by
    intro j u hj
    rw [List.getElem?_replicate] at hj
    split at hj
    · simp at hj; subst hj; exact hnews j (by assumption)
    · simp at hj
  have hone : ∀ u ∈ List.replicate m (Value.int .i64 x), u.oneCell' = true := by
    intro u hu
    rw [List.mem_replicate] at hu
    rw [hu.2]; rfl
  have hlen : (List.replicate m (Value.int .i64 x)).length = m * 1 := by simp
  by_cases hroom : ∃ g cap, v = .slice (some ⟨g, 0, none⟩) n cap ∧ n + m ≤ cap
  · obtain ⟨g, cap, rfl, hfit⟩ := hroom
    rcases hown.2 with ⟨h, _⟩ | ⟨g', cap', cur, h, hbg, hg, hnc, hcm, hcs, htake⟩
    · simp at h
    · simp only [Value.slice.injEq, Option.some.injEq, Addr.mk.injEq, and_true, true_and] at h
      obtain ⟨rfl, rfl⟩ := h
      have hfit' : n * i.size + (List.replicate m (Value.int .i64 x)).length ≤ cur.size := by rw [hsize, hcs]; simp; omega
      have hr := run_append_room (P := P) w t ty _ i ht hi g n cap cur hg a m c (List.replicate m (.int .i64 x)) (by simp [hsize]) hnews' hone hfit hfit'
      have hh := setRow_heap w g cur (cur.toList.take (n * i.size) ++ List.replicate m (Value.int .i64 x) ++ cur.toList.drop (n * i.size + (List.replicate m (Value.int .i64 x)).length)).toArray _ _ hg
      have ecur : cur.toList.take (n * i.size) ++ List.replicate m (Value.int .i64 x) ++ cur.toList.drop (n * i.size + (List.replicate m (Value.int .i64 x)).length) = cur.toList.take n ++ List.replicate m (Value.int .i64 x) ++ cur.toList.drop (n + m) := by simp [hsize]
      rw [ecur] at hr hh
      have hsz : (cur.toList.take n ++ List.replicate m (Value.int .i64 x) ++ cur.toList.drop (n + m)).toArray.size = cap * 1 := by
        simp; omega
      have hmk : ∀ u n', w.ownsRow 0 3 1 u n' (List.replicate n' (.int .i64 x)) → (w.setRow g (cur.toList.take n ++ List.replicate m (Value.int .i64 x) ++ cur.toList.drop (n + m)).toArray).ownsRow 0 3 1 u n' (List.replicate n' (.int .i64 x)) := by
        intro u n' hu
        refine ⟨hu.1, ?_⟩
        rcases hu.2 with h0 | ⟨g2, cap2, cur2, rfl, hb2, hg2, hn2, hm2, hs2, ht2⟩
        · exact Or.inl h0
        · by_cases e : g2 = g
          · subst e
            rw [hg] at hg2
            simp only [Option.some.injEq, Obj.cells.injEq, and_true] at hg2
            subst hg2
            refine Or.inr ⟨g2, cap2, _, rfl, hb2, hh, hn2, hm2, by rw [hsz, ← hcs, hs2], ?_⟩
            rw [Nat.mul_one] at ht2 ⊢
            exact take_replicate_mid cur.toList _ n m n' (by simp; omega) ht2 (by simp; omega)
          · refine Or.inr ⟨g2, cap2, cur2, rfl, hb2, ?_, hn2, hm2, hs2, ht2⟩
            rw [setRow_other w g g2 _ e]; exact hg2
      refine ⟨_, _, hr, ⟨by simp, Or.inr ⟨g, cap, _, rfl, hbg, hh, hfit, hcm, hsz, ?_⟩⟩, ⟨rfl, rfl, rfl, by simp, fun k _ hk => setRow_other w g k _ (fun e => hk (by simp [e, Value.ownBlock]))⟩, Or.inl rfl, fun u hu => ?_⟩
      · rw [Nat.mul_one] at htake ⊢
        show (cur.toList.take n ++ List.replicate m (Value.int .i64 x) ++ cur.toList.drop (n + m)).take (n + m) = _
        rw [htake, replicate_add', List.take_left' (by simp)]
      · obtain ⟨n', hn'⟩ := hu
        exact ⟨n', hmk u n' hn'⟩
  · obtain ⟨v', w', r1, r2, r3, r4⟩ := run_append_own2 (P := P) w t ty _ i z 1 8 ht hi hz hsize hby hzs (by decide) v n _ hown a m c _ hlen hnews' hone h63 hbytes
    rw [replicate_add'] at r2
    refine ⟨v', w', r1, r2, r3, r4, fun u hu => ?_⟩
    have hgn : w.grownBy w' none := by
      rcases hown.2 with ⟨rfl, rfl⟩ | ⟨g, cap, cur, rfl, hbg, hg, hnc, hcm, hcs, htake⟩
      · simpa [Value.ownBlock] using r3
      · obtain ⟨v2, w2, q1, q2, q3⟩ := run_append_arg_grows (P := P) w t ty _ i z 1 8 ht hi hz hsize hby hzs (by decide) ⟨g, 0, none⟩ n cap _ hown.1 (hown.cells (g := g) rfl) a m c _ hlen hnews' (by
          have : ¬ n + m ≤ cap := fun h => hroom ⟨g, cap, rfl, h⟩
          omega) h63 hbytes
        rw [r1] at q1
        simp only [Result.ok.injEq] at q1
        rw [q1.2]
        exact q3
    exact hu.keep fun k hk => hgn.block k (hu.lt hk) (by simp)

theorem wp_append_marks {P : Program} {o : Oper} {a : Act} {w : World} {K : Act → World → Prop} {Q : Exit → Act → World → Prop} (s x : Operand) (t : TypeId)
    (ho : o.op = .call { callee := .builtin .append, args := #[s, x], argTypes := #[t, t] })
    (i : TypeInfo) (z : Value) (ht : P.underlying t = some (.slice 3)) (hi : P.info? 3 = some i) (hz : i.zero = some z) (hsize : i.size = 1) (hby : i.bytes = 8) (hzs : z.cells.size = 1)
    (v : Value) (n : Nat) (y : Int) (hs : a.eval s = v) (hown : w.ownsRow 0 3 1 v n (List.replicate n (.int .i64 y)))
    (ad : Addr) (m c : Nat) (hx : a.eval x = .slice (some ad) m c) (hnews : ∀ j, j < m → w.cell? (ad.add j) = some (.int .i64 y)) (h63 : n + m ≤ maxLen) (hbytes : (n + m) * 8 ≤ 140737488355328)
    (h : ∀ v' w', w'.ownsRow 0 3 1 v' (n + m) (List.replicate (n + m) (.int .i64 y)) → w.grownBy w' v.ownBlock → Moved w v v' → (∀ u, Mks w u y → Mks w' u y) → K (a.put o.dst v') w') : o.wp P a w K Q := by
  obtain ⟨v', w', hr, h2, h3, h4, h5⟩ := run_append_marks (P := P) w t o.type i z ht hi hz hsize hby hzs v n y hown ad m c hnews h63 hbytes
  unfold Oper.wp execOp
  simp only [ho, resolve, invoke, builtin, Sem.run_bind, Sem.run_pure, Result.andThen_ok, List.map_toArray, List.map_cons, List.map_nil, hs, hx, hr]
  exact h v' w' h2 h3 h4 h5

theorem wpList_append_marks {P : Program} {ops : Array Oper} {rest : List Oper} {o : Oper} {a : Act} {w : World} {Q : Exit → Act → World → Prop} (hgd : o.guard = none) (s x : Operand) (t : TypeId)
    (ho : o.op = .call { callee := .builtin .append, args := #[s, x], argTypes := #[t, t] })
    (i : TypeInfo) (z : Value) (ht : P.underlying t = some (.slice 3)) (hi : P.info? 3 = some i) (hz : i.zero = some z) (hsize : i.size = 1) (hby : i.bytes = 8) (hzs : z.cells.size = 1)
    (v : Value) (n : Nat) (y : Int) (hs : a.eval s = v) (hown : w.ownsRow 0 3 1 v n (List.replicate n (.int .i64 y)))
    (ad : Addr) (m c : Nat) (hx : a.eval x = .slice (some ad) m c) (hnews : ∀ j, j < m → w.cell? (ad.add j) = some (.int .i64 y)) (h63 : n + m ≤ maxLen) (hbytes : (n + m) * 8 ≤ 140737488355328)
    (h : ∀ v' w', w'.ownsRow 0 3 1 v' (n + m) (List.replicate (n + m) (.int .i64 y)) → w.grownBy w' v.ownBlock → Moved w v v' → (∀ u, Mks w u y → Mks w' u y) → wpList P ops Q rest (a.put o.dst v') w') : wpList P ops Q (o :: rest) a w :=
  wpList_plain hgd fun _ hK => wp_append_marks s x t ho i z ht hi hz hsize hby hzs v n y hs hown ad m c hx hnews h63 hbytes fun v' w' h2 h3 h4 h5 => hK _ _ (h v' w' h2 h3 h4 h5)

end Go.Proofs.Ytekjgjhhjlcoaaa
