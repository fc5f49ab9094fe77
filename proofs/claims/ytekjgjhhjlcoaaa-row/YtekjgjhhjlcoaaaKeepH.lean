import Derived.Test.YtekjgjhhjlcoaaaKeepE
import Derived.Test.YtekjgjhhjlcoaaaKeepG
namespace Go.Proofs.Ytekjgjhhjlcoaaa
open Go.RowKit Go.Conc

/-- What the law knows between two acts. -/
structure Keeps (N : Nat) (w0 w : World) (tb gb : Nat) (p : Int) (i : Nat) (g : Tg.Gt) (S : Nat → Prop) (lv : Value) (s : List Tg.Sn) : Prop where
  kl : KL N w0 w tb gb g S g.room lv s
  kn : Tg.Knows s g.all
  len : g.all.length ≤ i
  time : g.time ≤ i
  pass : g.pass = p
  size : N ≤ w.heap.size

theorem Keeps.fresh {N : Nat} {w0 w : World} {tb gb : Nat} {room p : Int} {S : Nat → Prop} (h : KL N w0 w tb gb (Tg.fresh room p) S room (.slice none 0 0) []) (hN : N ≤ w.heap.size) : Keeps N w0 w tb gb p 0 (Tg.fresh room p) S (.slice none 0 0) [] :=
  ⟨h, ⟨rfl, fun i => by simp [Tg.snAt, Tg.tkAt, Tg.fresh, Tg.zeroT], fun i => by simp [Tg.snAt, Tg.tkAt, Tg.fresh, Tg.zeroT], fun k hk => by simp [Tg.tkAt, Tg.fresh, Tg.zeroT] at hk⟩, by simp [Tg.fresh], by simp [Tg.fresh], rfl, hN⟩

theorem Keeps.grow {N i : Nat} {w0 w w' : World} {tb gb : Nat} {p : Int} {g : Tg.Gt} {S : Nat → Prop} {lv : Value} {s : List Tg.Sn} (h : Keeps N w0 w tb gb p i g S lv s) (ht : Tch (fun _ => False) w w') : Keeps N w0 w' tb gb p i g S lv s :=
  ⟨h.kl.grow h.size ht, h.kn, h.len, h.time, h.pass, by have := h.size; have := ht.size; omega⟩

/-- An act, and a look. -/
theorem Keeps.next {N i : Nat} {w0 w w1 w2 : World} {tb gb : Nat} {p : Int} {g g' : Tg.Gt} {S S' : Nat → Prop} {lv lv' : Value} {s s' s2 : List Tg.Sn} {one : Prop} (h : Keeps N w0 w tb gb p i g S lv s) (d : Did N w0 w tb gb g w1 g' S' lv' s' one) (k : KL N w0 w2 tb gb g' S' g'.room lv' s2) (kn : Tg.Knows s2 g'.all) (hz : w1.heap.size ≤ w2.heap.size) :
    Keeps N w0 w2 tb gb p (i + 1) g' S' lv' s2 :=
  ⟨k, kn, by have := h.len; have := d.len; omega, by have := h.time; have := d.time; omega, d.pass.trans h.pass, by have := h.size; have := d.size; omega⟩

set_option maxRecDepth 20000 in
set_option maxHeartbeats 2000000 in
theorem room_law (room pass : Int) (hr : I64 room) (hp : I64 pass) (sv : Value) (ls : List (Int × Int × Int × Int)) (w : World) (A : Acts w w.heap.size sv ls) :
    Calls Try.prog 6 #[.int .i64 room, .int .i64 pass, sv] w fun e w' => e = .returned (.bool true) ∧ Below w.heap.size w w' := by
  have P1 := kpick_any room 30 (by omega) (by omega) hr.1 hr.2
  have P2 := kpick_any pass 21 (by omega) (by omega) hp.1 hp.2
  have l1 := pk_lt room 30 (by omega)
  have l2 := pk_lt pass 21 (by omega)
  have BG := begun_any w.heap.size w w (Nat.le_refl _) (Below.refl _ _) (pk room 30) (pk pass 21) (by omega) (by omega)
  obtain ⟨ao, cap, rfl, hn, hcells⟩ := A.form
  generalize pk room 30 = ro at P1 l1 BG
  generalize pk pass 21 = pa at P2 l2 BG
  clear A hr hp
  go_enter Try.func6, Try.ntmps6
  go_wp2_with (first | (go_at_call_of 14 (Value.int .i64 30); refine (P1 _).mono ?_; rintro e w' ⟨rfl, rfl⟩) | (go_at_call_of 14 (Value.int .i64 21); refine (P2 _).mono ?_; rintro e w' ⟨rfl, rfl⟩) | (go_at_call 13; refine BG.mono ?_; rintro e w1 ⟨tb, gb, S1, rfl, K1, hz1⟩) | (go_at_call 15; refine (known_any _).mono ?_; rintro e w2 ⟨rfl, T2⟩) | fail)
  have X0 := (Keeps.fresh K1 hz1).grow T2
  clear K1 T2 BG P1 P2
  go_loopg [8, 9] ls.length (fun r okv iv wr => ∃ i g S lv s, i + r = ls.length ∧ okv = .bool true ∧ iv = .int .i64 (i : Int) ∧ Keeps w'.heap.size w' wr tb gb (pa : Int) i g S lv s)
  case atStart => exact ⟨0, _, _, _, _, by omega, rfl, rfl, X0⟩
  case round =>
    obtain ⟨i, g, S, lv, s, hi, rfl, rfl, X⟩ := hrel
    clear X0
    by_cases hlt : i < ls.length
    · obtain ⟨ab, off, hab, rfl, q0, q1, q2, q3, b0, b1, b2, b3⟩ := hcells i hlt
      rw [← below_cellK X.kl.bel hab] at q0 q1 q2 q3
      have hlen := X.len
      have htim := X.time
      have DO := does_any X.kl X.size X.kn ls[i].1 ls[i].2.1 ls[i].2.2.1 ls[i].2.2.2 b0 b1 b2 b3 (by omega) (by omega)
      have e1 := wrapId ((i : Int) + 1) (by omega) (by omega)
      unfold actV at DO
      clear hcells
      go_wp2_with (first | (go_at_call 16; refine DO.mono ?_; rintro e w1 ⟨rfl, g1, S1, lv1, s1, D1⟩) | fail)
      have LO := klooks_any D1.kl (by have := D1.size; have := X.size; omega) D1.turned (by have := D1.len; omega)
      go_wp2_with (first | (go_at_call 17; refine LO.mono ?_; rintro e w2 ⟨rfl, s2, K2, kn2, hz2⟩) | fail)
      go_roundg (gk - 1)
      case rel => exact ⟨i + 1, g1, S1, lv1, s2, by omega, rfl, by simp, X.next D1 K2 kn2 hz2⟩
      case measure => omega
    · go_wp2
      go_ret
      exact ⟨rfl, X.kl.bel⟩

set_option maxRecDepth 20000 in
set_option maxHeartbeats 2000000 in
theorem passed_law (room pass : Int) (hr : I64 room) (hp : I64 pass) (sv : Value) (ls : List (Int × Int × Int × Int)) (w : World) (A : Acts w w.heap.size sv ls) :
    Calls Try.prog 7 #[.int .i64 room, .int .i64 pass, sv] w fun e w' => e = .returned (.bool true) ∧ Below w.heap.size w w' := by
  have P1 := kpick_any room 30 (by omega) (by omega) hr.1 hr.2
  have P2 := kpick_any pass 21 (by omega) (by omega) hp.1 hp.2
  have l1 := pk_lt room 30 (by omega)
  have l2 := pk_lt pass 21 (by omega)
  have BG := begun_any w.heap.size w w (Nat.le_refl _) (Below.refl _ _) (pk room 30) (pk pass 21) (by omega) (by omega)
  obtain ⟨ao, cap, rfl, hn, hcells⟩ := A.form
  generalize pk room 30 = ro at P1 l1 BG
  generalize pk pass 21 = pa at P2 l2 BG
  clear A hr hp
  go_enter Try.func7, Try.ntmps7
  go_wp2_with (first | (go_at_call_of 14 (Value.int .i64 30); refine (P1 _).mono ?_; rintro e w' ⟨rfl, rfl⟩) | (go_at_call_of 14 (Value.int .i64 21); refine (P2 _).mono ?_; rintro e w' ⟨rfl, rfl⟩) | (go_at_call 13; refine BG.mono ?_; rintro e w1 ⟨tb, gb, S1, rfl, K1, hz1⟩) | (go_at_call 15; refine (known_any _).mono ?_; rintro e w2 ⟨rfl, T2⟩) | fail)
  have X0 := (Keeps.fresh K1 hz1).grow T2
  clear K1 T2 BG P1 P2
  go_loopg [9, 10] ls.length (fun r okv iv wr => ∃ i g S lv s, i + r = ls.length ∧ okv = .bool true ∧ iv = .int .i64 (i : Int) ∧ Keeps w'.heap.size w' wr tb gb (pa : Int) i g S lv s)
  case atStart => exact ⟨0, _, _, _, _, by omega, rfl, rfl, X0⟩
  case round =>
    obtain ⟨i, g, S, lv, s, hi, rfl, rfl, X⟩ := hrel
    clear X0
    by_cases hlt : i < ls.length
    · obtain ⟨ab, off, hab, rfl, q0, q1, q2, q3, b0, b1, b2, b3⟩ := hcells i hlt
      rw [← below_cellK X.kl.bel hab] at q0 q1 q2 q3
      have hlen := X.len
      have htim := X.time
      have DO := does_any X.kl X.size X.kn ls[i].1 ls[i].2.1 ls[i].2.2.1 ls[i].2.2.2 b0 b1 b2 b3 (by omega) (by omega)
      have e1 := wrapId ((i : Int) + 1) (by omega) (by omega)
      unfold actV at DO
      clear hcells
      go_wp2_with (first | (go_at_call 16; refine DO.mono ?_; rintro e w1 ⟨rfl, g1, S1, lv1, s1, D1⟩) | fail)
      have LO := klooks_any D1.kl (by have := D1.size; have := X.size; omega) D1.turned (by have := D1.len; omega)
      go_wp2_with (first | (go_at_call 17; refine LO.mono ?_; rintro e w2 ⟨rfl, s2, K2, kn2, hz2⟩) | fail)
      have Y := X.next D1 K2 kn2 hz2
      have c2 := Y.kl.c2
      obtain ⟨ao2, cap2, elv2, _, hao2⟩ := Y.kl.form
      rw [elv2] at c2
      have hle2 : s2.length ≤ 8796093022208 := by rw [Y.kn.len]; have := Y.len; omega
      have bnd : ∀ k, k < s2.length → (Tg.snAt s2 k).state ≠ 1 ∨ (Tg.snAt s2 k).passed ≤ (pa : Int) := fun k hk => by
        have := Y.kn.bound Y.kl.ga.ok.ok k hk
        rwa [Y.pass] at this
      clear DO LO D1 K2 kn2 X
      go_loopg [9, 13] s2.length (fun r okv kv wr => ∃ k, k + r = s2.length ∧ okv = .bool true ∧ kv = .int .i64 (k : Int) ∧ wr = w2)
      case atStart => exact ⟨0, by omega, rfl, rfl, rfl⟩
      case round =>
        obtain ⟨k, hk, rfl, rfl, rfl⟩ := hrel
        by_cases hkl : k < s2.length
        · obtain ⟨ab2, rfl⟩ := hao2 k hkl
          obtain ⟨_, v1, v2⟩ := Y.kl.val elv2 k hkl _ rfl
          have e2 := wrapId ((k : Int) + 1) (by omega) (by omega)
          have hb := bnd k hkl
          obtain ⟨st, est⟩ : ∃ x, (Tg.snAt s2 k).state = x := ⟨_, rfl⟩
          obtain ⟨ps, eps⟩ : ∃ x, (Tg.snAt s2 k).passed = x := ⟨_, rfl⟩
          rw [est] at v1 hb
          rw [eps] at v2 hb
          clear est eps bnd
          by_cases h1 : st = 1
          · subst h1
            have hp' : decide (ps ≤ (pa : Int)) = true := by simpa using hb
            clear hb
            go_wp2
            go_roundg (gk - 1)
            case rel => exact ⟨k + 1, by omega, rfl, by simp, rfl⟩
            case measure => omega
          · have h1' : (st != 1) = true := by simpa using h1
            clear hb h1
            go_wp2
            go_roundg (gk - 1)
            case rel => exact ⟨k + 1, by omega, rfl, by simp, rfl⟩
            case measure => omega
        · go_wp2
          go_roundg (ls.length - (i + 1))
          case rel => exact ⟨i + 1, g1, S1, lv1, s2, by omega, rfl, by simp, Y⟩
          case measure => omega
    · go_wp2
      go_ret
      exact ⟨rfl, X.kl.bel⟩

end Go.Proofs.Ytekjgjhhjlcoaaa
