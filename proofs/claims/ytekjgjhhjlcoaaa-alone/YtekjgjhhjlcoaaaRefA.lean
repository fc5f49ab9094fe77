import Derived.Test.YtekjgjhhjlcoaaaBase
namespace Go.Proofs.Ytekjgjhhjlcoaaa
open Go.RowKit

set_option maxHeartbeats 400000 in
theorem within_any (n lo hi : Int) (w : World) :
    Calls Try.prog 87 #[.int .i64 n, .int .i64 lo, .int .i64 hi] w fun e w' => e = .returned (.bool (decide (lo ≤ n) && decide (n ≤ hi))) ∧ w' = w := by
  go_enter Try.func87, Try.ntmps87
  go_wp2
  · go_ret
    have h : lo ≤ n := by assumption
    exact ⟨by simp [h], rfl⟩
  · go_ret
    have h : n < lo := by assumption
    exact ⟨by simp [show ¬ lo ≤ n by omega], rfl⟩

set_option maxHeartbeats 400000 in
theorem num_any (n : Int) (w : World) :
    Calls Try.prog 60 #[.int .i64 n] w fun e w' => e = .returned (.int .i64 n) ∧ w' = w := by
  go_enter Try.func60, Try.ntmps60
  go_wp2
  go_ret
  exact ⟨rfl, rfl⟩

theorem rheld_step (g : Tg.Gt) (ok : Tg.TksOk g.pass g.all) (hn : g.all.length ≤ 4398046511104) (k : Nat) (hk : k < g.all.length) :
    0 ≤ Tg.held (g.all.take k) ∧ Tg.held (g.all.take k) ≤ 439804651110400 ∧ 1 ≤ g.all[k].weight ∧ g.all[k].weight ≤ 100 := by
  have h1 := Tg.held_bounds g.pass _ (ok.take k)
  have h2 := ok _ (List.getElem_mem hk)
  have hl : (g.all.take k).length = k := by simp; omega
  rw [hl] at h1
  exact ⟨h1.1, by omega, h2.w1, h2.w2⟩

set_option maxHeartbeats 400000 in
theorem rheld_any (b : Nat) (g : Tg.Gt) (v : Value) (w : World) (h : RG w b g v) (ok : Tg.TksOk g.pass g.all) (hn : g.all.length ≤ 4398046511104) :
    Calls Try.prog 64 #[.pointer (some ⟨b, 0, none⟩)] w fun e w' => e = .returned (.int .i64 (Tg.held g.all)) ∧ w' = w := by
  obtain ⟨ao, cap, rfl, hao⟩ := h.form
  have c3 := h.c3
  have H := h; clear h
  go_enter Try.func64, Try.ntmps64
  go_wp2
  go_loop [3, 4] (fun t i => ∃ k : Nat, k ≤ g.all.length ∧ i = .int .i64 k ∧ t = .int .i64 (Tg.held (g.all.take k))) (fun _ i => g.all.length - (intOf i).toNat)
  case atStart => exact ⟨0, Nat.zero_le _, rfl, rfl⟩
  case round =>
    obtain ⟨k, hk, rfl, rfl⟩ := hrel
    by_cases hlt : k < g.all.length
    · obtain ⟨ab, rfl⟩ := hao k hlt
      have s4 := H.at rfl k 4 hlt (by omega)
      have s0 := H.at rfl k 0 hlt (by omega)
      simp [tkCells] at s4 s0
      have hb := rheld_step g ok hn k hlt
      have HS : Hid (Tg.held (g.all.take (k + 1)) = Tg.held (g.all.take k) + (if g.all[k].state = 2 then g.all[k].weight else 0)) := Tg.held_take_succ g.all k hlt
      go_wp2
      · go_round
        have h2 : (g.all[k].state == 2) = true := by assumption
        case rel => exact ⟨k + 1, by omega, by go_num, by rw [HS.out, if_pos (by simpa using h2)]⟩
        case measure => simp [intOf]; omega
      · go_round
        have h2 : (g.all[k].state == 2) = false := by assumption
        case rel => exact ⟨k + 1, by omega, by go_num, by rw [HS.out, if_neg (by simpa using h2)]; simp⟩
        case measure => simp [intOf]; omega
    · go_wp2
      go_ret
      exact ⟨ret_int (by rw [List.take_of_length_le (by omega)]), rfl⟩

/-- A list of numbers that is read: nothing, or cells one behind the other. -/
structure Ints (w : World) (v : Value) (l : List Int) : Prop where
  form : ∃ ao cap, v = .slice ao l.length cap ∧ l.length ≤ 9223372036854775807 ∧ ∀ k (hk : k < l.length), ∃ ab, ao = some ⟨ab, 0, none⟩ ∧ w.cell? ⟨ab, k, none⟩ = some (.int .i64 l[k])

theorem Ints.nil (w : World) : Ints w (.slice none 0 0) [] := ⟨none, 0, rfl, by simp, fun k hk => absurd hk (by simp)⟩
theorem Ints.drewN {w : World} {v : Value} {l : List Int} (h : Ints w v l) (n : Nat) : Ints (w.drewN n) v l := ⟨h.form⟩

theorem contains_take (l : List Int) (n : Int) (k : Nat) (h : k < l.length) : (l.take (k + 1)).contains n = ((l.take k).contains n || l[k] == n) := by
  rw [List.take_succ_eq_append_getElem h]
  simp only [List.contains_eq_mem, List.mem_append, List.mem_singleton, Bool.decide_or]
  congr 1
  by_cases e : n = l[k]
  · simp [e]
  · have e2 : ¬ l[k] = n := fun x => e x.symm
    simp [e, e2]

set_option maxHeartbeats 400000 in
theorem rin_any (v : Value) (l : List Int) (n : Int) (w : World) (h : Ints w v l) :
    Calls Try.prog 99 #[v, .int .i64 n] w fun e w' => e = .returned (.bool (l.contains n)) ∧ w' = w := by
  obtain ⟨ao, cap, rfl, hl, hao⟩ := h.form
  clear h
  go_enter Try.func99, Try.ntmps99
  go_wp2
  go_loop [5] (fun i => ∃ k : Nat, k ≤ l.length ∧ i = .int .i64 k ∧ (l.take k).contains n = false) (fun i => l.length - (intOf i).toNat)
  case atStart => exact ⟨0, Nat.zero_le _, rfl, by simp⟩
  case round =>
    obtain ⟨k, hk, rfl, hc⟩ := hrel
    by_cases hlt : k < l.length
    · obtain ⟨ab, rfl, s0⟩ := hao k hlt
      have HS : Hid ((l.take (k + 1)).contains n = ((l.take k).contains n || l[k] == n)) := contains_take l n k hlt
      have HC : Hid ((l.take k).contains n = false) := hc
      clear hc
      go_wp2
      · go_ret
        have h2 : (l[k] == n) = true := by assumption
        refine ⟨ret_bool ?_, rfl⟩
        have : n ∈ l := by have := List.getElem_mem hlt; rw [eq_of_beq h2] at this; exact this
        simp [this]
      · go_round
        have h2 : (l[k] == n) = false := by assumption
        case rel => exact ⟨k + 1, by omega, by go_num, by rw [HS.out, HC.out, h2]; rfl⟩
        case measure => simp [intOf]; omega
    · have HC : Hid ((l.take k).contains n = false) := hc
      clear hc
      go_wp2
      go_ret
      have := HC.out
      rw [List.take_of_length_le (by omega)] at this
      rw [List.contains_eq_mem] at this
      exact ⟨ret_bool this.symm, rfl⟩

theorem rin_is (v : Value) (l : List Int) (n : Int) (c : Bool) (w : World) (h : Ints w v l) (hc : l.contains n = c) :
    Calls Try.prog 99 #[v, .int .i64 n] w fun e w' => e = .returned (.bool c) ∧ w' = w := by
  subst hc; exact rin_any v l n w h

end Go.Proofs.Ytekjgjhhjlcoaaa
