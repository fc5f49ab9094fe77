import Derived.Test.YtekjgjhhjlcoaaaKeepH
namespace Tg

def waitsB (t : Sn) : Bool := t.state == 1

theorem waitN_countP (l : List Tk) : waitN l = l.countP fun t => t.state == 1 := by
  induction l with
  | nil => rfl
  | cons t r ih =>
    rw [List.countP_cons, waitN, ih]
    by_cases h : t.state = 1
    · simp [h]; omega
    · simp [h]

theorem Knows.waits {s : List Sn} {l : List Tk} (h : Knows s l) : s.countP waitsB = waitN l := by
  have e : s.map (fun t => t.state) = l.map fun t => t.state := by
    apply List.ext_getElem
    · simp [h.len]
    · intro i h1 h2
      have hs : i < s.length := by simpa using h1
      have hl : i < l.length := by simpa using h2
      have := h.st i
      rw [snAt_lt hs, tkAt_lt hl] at this
      simpa using this
  have h1 : s.countP waitsB = (s.map fun t => t.state).countP (fun x => x == 1) := by rw [List.countP_map]; rfl
  have h2 : (l.countP fun t => t.state == 1) = (l.map fun t => t.state).countP (fun x => x == 1) := by rw [List.countP_map]; rfl
  rw [waitN_countP, h1, h2, e]

theorem countP_take_succ {α : Type} (p : α → Bool) (l : List α) (i : Nat) (h : i < l.length) : (l.take (i + 1)).countP p = (l.take i).countP p + (if p l[i] then 1 else 0) := by
  rw [List.take_succ_eq_append_getElem h, List.countP_append]
  simp [List.countP_cons]

/-- What whole asks of a list. -/
structure Wh (s : List Sn) (q : List Int) : Prop where
  mem : ∀ i (hi : i < q.length), ∃ k, k < s.length ∧ q[i] = (k : Int) + 1 ∧ (snAt s k).state = 1
  nd : ∀ i j (hi : i < q.length) (hj : j < q.length), i ≠ j → q[i] ≠ q[j]
  len : s.countP waitsB = q.length

theorem Knows.wh {s : List Sn} {l : List Tk} {pass : Int} (h : Knows s l) (ok : TksOk pass l) : Wh s (queueL pass l) := by
  refine ⟨fun i hi => ?_, fun i j hi hj hij => ?_, by rw [h.waits, queueL_length pass l ok]⟩
  · obtain ⟨k, hk, e, hs⟩ := queueL_mem pass l _ (List.getElem_mem hi)
    exact ⟨k, by rw [h.len]; exact hk, e, by rw [h.st k, tkAt_lt hk]; exact hs⟩
  · intro e
    exact hij ((List.getElem_inj (queueL_nodup pass l)).1 e)
end Tg
namespace Go.Proofs.Ytekjgjhhjlcoaaa
open Go.RowKit Go.Conc

section
variable {N : Nat} {w0 w : World} {tb gb : Nat} {g : Tg.Gt} {S : Nat → Prop} {lv : Value} {s : List Tg.Sn}

set_option maxRecDepth 20000 in
set_option maxHeartbeats 4000000 in
theorem whole_any (K : KL N w0 w tb gb g S g.room lv s) (qv : Value) (q : List Int) (Q : Ints w qv q) (W : Tg.Wh s q) (hsl : s.length ≤ 10000000000000) (hql : q.length ≤ 10000000000000) :
    Calls Try.prog 19 #[.pointer (some ⟨tb, 0, none⟩), qv] w fun e w' => e = .returned (.bool true) ∧ ∃ n, w' = w.drewN n := by
  obtain ⟨ao, cap, elv, _, hao⟩ := K.form
  obtain ⟨qo, qcap, rfl, _, hqo⟩ := Q.form
  have c2 := K.c2
  rw [elv] at c2
  go_enter Try.func19, Try.ntmps19
  go_wp2
  go_loopg [5, 6] s.length (fun r nv iv wr => ∃ i, i + r = s.length ∧ nv = .int .i64 (((s.take i).countP Tg.waitsB : Nat) : Int) ∧ iv = .int .i64 (i : Int) ∧ wr = w)
  case atStart => exact ⟨0, by omega, rfl, rfl, rfl⟩
  case round =>
    obtain ⟨i, hi, rfl, rfl, rfl⟩ := hrel
    by_cases hlt : i < s.length
    · obtain ⟨ab, rfl⟩ := hao i hlt
      obtain ⟨_, v1, _⟩ := K.val elv i hlt s[i] (Tg.snAt_lt hlt)
      have e1 := wrapId ((i : Int) + 1) (by omega) (by omega)
      have hc := Tg.countP_take_succ Tg.waitsB s i hlt
      have hcl : (s.take i).countP Tg.waitsB ≤ s.length := by
        have := List.countP_le_length (p := Tg.waitsB) (l := s.take i)
        have h2 : (s.take i).length ≤ s.length := by simp; omega
        omega
      generalize (s.take i).countP Tg.waitsB = n at hc hcl
      have e2 := wrapId ((n : Int) + 1) (by omega) (by omega)
      unfold Tg.waitsB at hc
      obtain ⟨st, est⟩ : ∃ x, s[i].state = x := ⟨_, rfl⟩
      rw [est] at v1 hc
      have HC := hid hc
      clear est hc
      by_cases h1 : st = 1
      · subst h1
        go_wp2
        go_roundg (gk - 1)
        case rel =>
          refine ⟨i + 1, by omega, ?_, by simp, rfl⟩
          have := HC.out
          show Value.int .i64 _ = Value.int .i64 (((s.take (i + 1)).countP fun t => t.state == 1 : Nat) : Int)
          rw [this]; simp
        case measure => omega
      · have h1' : (st == 1) = false := by simpa using h1
        clear h1
        go_wp2
        go_roundg (gk - 1)
        case rel =>
          refine ⟨i + 1, by omega, ?_, by simp, rfl⟩
          have := HC.out
          show Value.int .i64 _ = Value.int .i64 (((s.take (i + 1)).countP fun t => t.state == 1 : Nat) : Int)
          rw [this, h1']; simp
        case measure => omega
    · have ei : s.take i = s := List.take_of_length_le (by omega)
      have hw := W.len
      rw [ei, hw]
      have HW := hid hw
      clear hw ei
      go_wp2
      go_loopg [7] q.length (fun r iv w2 => ∃ j, j + r = q.length ∧ iv = .int .i64 (j : Int) ∧ ∃ n, w2 = wr.drewN n)
      case atStart => exact ⟨0, by omega, rfl, 0, rfl⟩
      case round =>
        obtain ⟨j, hj, rfl, n, rfl⟩ := hrel
        by_cases hjl : j < q.length
        · obtain ⟨k, hk, eq, hs⟩ := W.mem j hjl
          obtain ⟨ab, rfl⟩ := hao k hk
          obtain ⟨qb, rfl, qc⟩ := hqo j hjl
          obtain ⟨_, v1, _⟩ := K.val elv k hk _ rfl
          rw [hs] at v1
          have e3 := wrapId ((j : Int) + 1) (by omega) (by omega)
          have hne := fun k' (hk' : k' < j) => W.nd k' j (by omega) hjl (by omega)
          have hcell := fun k' (hk' : k' < j) => hqo k' (by omega)
          rw [eq] at qc hne
          have e4 : IntKind.i64.wrap ((k : Int) + 1 - 1) = (k : Int) := by rw [wrapId _ (by omega) (by omega)]; omega
          have d1 : decide ((k : Int) + 1 < 1) = false := by simp; omega
          have d2 : decide ((s.length : Int) < (k : Int) + 1) = false := by simp; omega
          clear eq
          go_wp2
          go_quiet (fail)
          go_wp2
          go_loopg [8] j (fun r kv w2 => ∃ m, m + r = j ∧ kv = .int .i64 (m : Int) ∧ ∃ n, w2 = wr.drewN n)
          case atStart => exact ⟨0, by omega, rfl, n + nq, by rw [World.drewN_drewN]⟩
          case round =>
            obtain ⟨m, hm, rfl, n2, rfl⟩ := hrel
            by_cases hmj : m < j
            · obtain ⟨qb2, eqb, mc⟩ := hcell m hmj
              simp at eqb
              subst eqb
              have hne' := hne m hmj
              obtain ⟨y, ey⟩ : ∃ y, q[m]'(by omega) = y := ⟨_, rfl⟩
              rw [ey] at mc hne'
              have d3 : (y == (k : Int) + 1) = false := by simpa using hne'
              have e5 := wrapId ((m : Int) + 1) (by omega) (by omega)
              clear ey hne'
              go_wp2
              go_quiet (fail)
              go_wp2
              go_roundg (gk - 1)
              case rel => exact ⟨m + 1, by omega, by simp, _, rfl⟩
              case measure => omega
            · go_wp2
              go_roundg (q.length - (j + 1))
              case rel => exact ⟨j + 1, by omega, by simp, _, rfl⟩
              case measure => omega
        · go_wp2
          go_ret
          exact ⟨rfl, n, rfl⟩
end

end Go.Proofs.Ytekjgjhhjlcoaaa
