import Derived.Test.YtekjgjhhjlcoaaaLawR
namespace Go.Proofs.Ytekjgjhhjlcoaaa
open Go.RowKit

theorem LI.at {N : Nat} {w : World} {ao1 ao2 : Option Addr} {cap1 cap2 : Nat} {ls : List (Value × Int)} (L : LI N w (.slice ao1 ls.length cap1) (.slice ao2 ls.length cap2) ls) (i : Nat) (hi : i < ls.length) :
    ∃ nb kb ao n cap, ao1 = some ⟨nb, 0, none⟩ ∧ ao2 = some ⟨kb, 0, none⟩ ∧ ls[i].1 = .slice ao n cap ∧ n ≤ 9223372036854775807 ∧ w.cell? ⟨nb, i, none⟩ = some (.slice ao n cap) ∧ w.cell? ⟨kb, i, none⟩ = some (.int .i64 ls[i].2) ∧
      ∀ k, k < n → ∃ ab, ao = some ⟨ab, 0, none⟩ ∧ w.cell? ⟨ab, k, none⟩ = some (.int .i64 ls[i].2) := by
  obtain ⟨nb, c1, e1⟩ := ownsRow_form L.nrow (by omega)
  obtain ⟨kb, c2, e2⟩ := ownsRow_form L.krow (by omega)
  simp at e1 e2
  obtain ⟨rfl, rfl⟩ := e1
  obtain ⟨rfl, rfl⟩ := e2
  have x1 := L.nrow.cells (g := nb) rfl i ls[i].1 (by simp [hi])
  have x2 := L.krow.cells (g := kb) rfl i (.int .i64 ls[i].2) (by simp [hi])
  rw [Addr.add_lit] at x1 x2
  simp only [Nat.zero_add] at x1 x2
  obtain ⟨n, hn⟩ := L.ents _ (List.getElem_mem hi)
  obtain ⟨ao, cap, e⟩ := row_form hn
  rw [e] at x1 hn
  refine ⟨nb, kb, ao, n, cap, rfl, rfl, e, ?_, x1, x2, fun k hk => ?_⟩
  · rcases hn.2 with ⟨_, h0⟩ | ⟨_, _, _, _, _, _, hl, hm, _⟩
    · omega
    · unfold maxLen at hm; omega
  · obtain ⟨ab, c3, e3⟩ := ownsRow_form hn (by omega)
    simp at e3
    obtain ⟨rfl, rfl⟩ := e3
    have x3 := hn.cells (g := ab) rfl k (.int .i64 ls[i].2) (by simp [hk])
    rw [Addr.add_lit] at x3
    simp only [Nat.zero_add] at x3
    exact ⟨ab, rfl, x3⟩

theorem LI.drewN {N : Nat} {w : World} {nv kv : Value} {ls : List (Value × Int)} (L : LI N w nv kv ls) (n : Nat) : LI N (w.drewN n) nv kv ls := L.keep (fun _ _ => rfl) (fun _ _ => rfl) (fun _ _ _ _ => rfl)

/-- What lies in no block of numbers, nor of lists of them, may change. -/
theorem LI.keepK {N : Nat} {w w' : World} {nv kv : Value} {ls : List (Value × Int)} (L : LI N w nv kv ls)
    (h : ∀ (k : Nat) (cur : Array Value), w.heap[k]? = some (.cells cur 3 (0, 0)) ∨ w.heap[k]? = some (.cells cur 40 (0, 0)) → w'.heap[k]? = w.heap[k]?) : LI N w' nv kv ls :=
  L.keep (fun k hk => by obtain ⟨c, e⟩ := row_blk L.nrow hk; exact h k c (Or.inr e)) (fun k hk => by obtain ⟨c, e⟩ := row_blk L.krow hk; exact h k c (Or.inl e)) (fun x hx k hk => by obtain ⟨c, e⟩ := (L.ents x hx).blk hk; exact h k c (Or.inl e))

theorem LI.nil (N : Nat) (w : World) : LI N w (.slice none 0 0) (.slice none 0 0) [] :=
  ⟨World.ownsRow_nil _ _ _ _, World.ownsRow_nil _ _ _ _, by simp, by simp, by simp [Value.ownBlock], by simp [Value.ownBlock], by simp⟩

/-- The lists of a law's world: the row of them, the row of marks, what both say. -/
structure Ls where
  nv : Value
  kv : Value
  ls : List (Value × Int)

set_option maxRecDepth 20000 in
set_option maxHeartbeats 1000000 in
theorem looks_lists {N : Nat} {w : World} {wb : Nat} {lv nv kv : Value} {ls : List (Value × Int)} (hb : w.heap[wb]? = some (.cells #[lv, nv, kv] 76 (0, 0))) (L : LI N w nv kv ls) :
    Calls Try.prog 33 #[.pointer (some ⟨wb, 0, none⟩)] w fun e w' => e = .returned (.bool true) ∧ ∃ n, w' = w.drewN n := by
  have hls : ls.length ≤ 9223372036854775807 := by
    rcases L.nrow.2 with ⟨_, h0⟩ | ⟨_, _, _, _, _, _, hl, hm, _⟩
    · omega
    · unfold maxLen at hm; omega
  obtain ⟨ao1, cap1, rfl⟩ := row_form L.nrow
  obtain ⟨ao2, cap2, rfl⟩ := row_form L.krow
  have c1 : ∀ n, (w.drewN n).cell? ⟨wb, 1, none⟩ = some (.slice ao1 ls.length cap1) := fun n => by simp [World.cell?, hb]
  have c2 : ∀ n, (w.drewN n).cell? ⟨wb, 2, none⟩ = some (.slice ao2 ls.length cap2) := fun n => by simp [World.cell?, hb]
  go_enter Try.func33, Try.ntmps33
  go_wp2
  go_loopg [3] ls.length (fun r i wr => ∃ k : Nat, k + r = ls.length ∧ i = .int .i64 k ∧ ∃ n, wr = w.drewN n)
  case atStart => exact ⟨0, by omega, rfl, 0, rfl⟩
  case round =>
    obtain ⟨k, hk, rfl, n, rfl⟩ := hrel
    have d1 := c1 n
    by_cases hkl : k < ls.length
    · obtain ⟨nb, kb, ao, ln, cap, rfl, rfl, _, hln, x1, x2, x3⟩ := L.at k hkl
      go_wp2
      go_loopg [4] ln (fun r i wr => ∃ j : Nat, j + r = ln ∧ i = .int .i64 j ∧ ∃ n, wr = w.drewN n)
      case atStart => exact ⟨0, by omega, rfl, n, rfl⟩
      case round =>
        obtain ⟨j, hj, rfl, n2, rfl⟩ := hrel
        have f1 := c1 n2
        have f2 := c2 n2
        by_cases hjl : j < ln
        · obtain ⟨ab, rfl, x4⟩ := x3 j hjl
          go_wp2
          go_quiet (fail)
          go_wp2
          go_roundg (gk - 1)
          case rel => exact ⟨j + 1, by omega, by go_num, _, rfl⟩
          case measure => omega
        · go_wp2
          go_roundg (ls.length - (k + 1))
          case rel => exact ⟨k + 1, by omega, by go_num, _, rfl⟩
          case measure => omega
    · go_wp2
      go_ret
      exact ⟨rfl, _, rfl⟩
end Go.Proofs.Ytekjgjhhjlcoaaa
