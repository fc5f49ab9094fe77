import Derived.Test.YtekjgjhhjlcoaaaLawD
namespace Go.Proofs.Ytekjgjhhjlcoaaa
open Go.RowKit Go.Conc

section
attribute [local go_sem] alloc_drewN setCell_drewN

/-- The script as it lies in memory: n steps of five numbers, from an address on, below N. -/
structure Script (w : World) (N : Nat) (sv : Value) (ss : List (Int × Int × Int × Int × Int)) : Prop where
  form : ∃ ao cap, sv = .slice ao ss.length cap ∧ ss.length ≤ 3518437208780 ∧ ∀ k (hk : k < ss.length), ∃ ab off, ab < N ∧ ao = some ⟨ab, off, none⟩ ∧
    w.cell? ⟨ab, off + k * 5, none⟩ = some (.int .i64 ss[k].1) ∧ w.cell? ⟨ab, off + k * 5 + 1, none⟩ = some (.int .i64 ss[k].2.1) ∧ w.cell? ⟨ab, off + k * 5 + 2, none⟩ = some (.int .i64 ss[k].2.2.1) ∧
    w.cell? ⟨ab, off + k * 5 + 3, none⟩ = some (.int .i64 ss[k].2.2.2.1) ∧ w.cell? ⟨ab, off + k * 5 + 4, none⟩ = some (.int .i64 ss[k].2.2.2.2) ∧
    -9223372036854775808 ≤ ss[k].2.1 ∧ ss[k].2.1 ≤ 9223372036854775807

/-- What a play keeps, whatever its last kind is: B bounds, n pairs, the world. -/
structure Play (M : Nat) (last : Int) (w : World) (I : Nat → Nat → World → Prop) : Prop where
  c0 : ∀ {B n w'}, I B n w' → ∃ ao cap, w'.cell? ⟨w.heap.size, 0, none⟩ = some (.slice ao n cap)
  bel : ∀ {B n w'}, I B n w' → Below w.heap.size w w'
  num : ∀ {B n w'}, I B n w' → n ≤ B
  mono : ∀ {B n w'}, I B n w' → I (B + 1) n w'
  first : Calls Try.prog 32 #[.pointer (some ⟨w.heap.size, 0, none⟩), .agg #[.int .i64 1, .int .i64 0, .int .i64 10, .int .i64 2, .int .i64 0]] (w.alloc (.cells #[.slice none 0 0, .slice none 0 0, .slice none 0 0] 76)) fun e w' => e = .returned (.bool true) ∧ I 1 1 w'
  step : ∀ {B n w'} (kd e0 a b c : Int), I B n w' → 0 < n → kd ≤ last → -9223372036854775808 ≤ e0 → e0 ≤ 9223372036854775807 → B + 1 ≤ M →
    Calls Try.prog 32 #[.pointer (some ⟨w.heap.size, 0, none⟩), .agg #[.int .i64 kd, .int .i64 e0, .int .i64 a, .int .i64 b, .int .i64 c]] w' fun e w2 => e = .returned (.bool true) ∧ ∃ n', n ≤ n' ∧ I (B + 1) n' w2
  look : ∀ {B n w'} (kd e0 a b c : Int), I B n w' → 0 < n → kd = 3 ∨ kd = 5 → -9223372036854775808 ≤ e0 → e0 ≤ 9223372036854775807 → B ≤ M →
    Calls Try.prog 32 #[.pointer (some ⟨w.heap.size, 0, none⟩), .agg #[.int .i64 kd, .int .i64 e0, .int .i64 a, .int .i64 b, .int .i64 c]] w' fun e w2 => e = .returned (.bool true) ∧ I B n w2
  looks : ∀ {B n w'}, I B n w' → Calls Try.prog 33 #[.pointer (some ⟨w.heap.size, 0, none⟩)] w' fun e w2 => e = .returned (.bool true) ∧ I B n w2

set_option maxRecDepth 20000 in
set_option maxHeartbeats 2000000 in
theorem plays_gen (sv : Value) (ss : List (Int × Int × Int × Int × Int)) (w : World) (S : Script w w.heap.size sv ss) (last : Int) (hlast : 2 ≤ last) (I : Nat → Nat → World → Prop) (M : Nat) (hM : ss.length + 3 ≤ M) (P : Play M last w I) :
    Calls Try.prog 12 #[sv, .int .i64 last] w fun e w' => e = .returned (.bool true) ∧ Below w.heap.size w w' := by
  obtain ⟨ao, cap, rfl, hn, hcells⟩ := S.form
  clear S
  have HN := P.first
  go_enter Try.func12, Try.ntmps12
  go_wp2_with fail
  refine HN.mono ?_
  rintro e w1 ⟨rfl, I1⟩
  clear HN
  obtain ⟨ao1, cap1, cw1⟩ := P.c0 I1
  go_wp2_with fail
  refine (P.step 2 0 6 1 (-1) I1 (by omega) (by omega) (by omega) (by omega) (by omega)).mono ?_
  rintro e w2 ⟨rfl, n2, hn2, I2⟩
  clear I1 cw1
  go_wp2_with fail
  refine (P.step 2 0 6 1 (-1) I2 (by omega) (by omega) (by omega) (by omega) (by omega)).mono ?_
  rintro e w3 ⟨rfl, n3, hn3, I3⟩
  clear I2
  go_wp2
  have hn3' : 0 < n3 := by omega
  clear hn2 hn3
  go_loopg [6, 9] ss.length (fun r ok i wr => ∃ k n : Nat, k + r = ss.length ∧ ok = .bool true ∧ i = .int .i64 k ∧ 0 < n ∧ I (3 + k) n wr)
  case atStart => exact ⟨0, n3, by omega, rfl, rfl, hn3', I3⟩
  case round =>
    obtain ⟨k, n, hk, rfl, rfl, hnp, IK⟩ := hrel
    have hb := P.bel IK
    by_cases hkl : k < ss.length
    · obtain ⟨ab, off, hab, rfl, x0, x1, x2, x3, x4, he1, he2⟩ := hcells k hkl
      rw [← hb.cell (by simpa using hab)] at x0 x1 x2 x3 x4
      by_cases hkd : ss[k].1 ≤ last
      · have hkd' : ¬ last < ss[k].1 := by omega
        have HS := P.step ss[k].1 ss[k].2.1 ss[k].2.2.1 ss[k].2.2.2.1 ss[k].2.2.2.2 IK hnp hkd he1 he2 (by omega)
        go_wp2_with fail
        refine HS.mono ?_
        rintro e w4 ⟨rfl, n4, hn4, I4⟩
        clear HS x0 x1 x2 x3 x4 IK hcells I3
        go_wp2_with fail
        refine (P.looks I4).mono ?_
        rintro e w5 ⟨rfl, I5⟩
        clear I4
        go_wp2
        go_roundg (gk - 1)
        case rel => exact ⟨k + 1, n4, by omega, rfl, by go_num, by omega, I5⟩
        case measure => omega
      · have hkd' : last < ss[k].1 := by omega
        clear hcells I3
        go_wp2
        go_roundg (gk - 1)
        case rel => exact ⟨k + 1, n, by omega, rfl, by go_num, by omega, P.mono IK⟩
        case measure => omega
    · clear hcells I3
      obtain rfl : k = ss.length := by omega
      clear hkl hk hb
      have hnum := P.num IK
      go_wp2
      go_loopg [6, 11] n (fun r ok i wr => ∃ j : Nat, j + r = n ∧ ok = .bool true ∧ i = .int .i64 j ∧ I (3 + ss.length) n wr)
      case atStart => exact ⟨0, by omega, rfl, rfl, IK⟩
      case round =>
        obtain ⟨j, hj, rfl, rfl, IJ⟩ := hrel
        obtain ⟨ao2, cap2, cw2⟩ := P.c0 IJ
        clear IK
        by_cases hjn : j < n
        · go_wp2
          go_loopg [6, 12] 11 (fun r ok i wr => ∃ m : Nat, m + r = 12 ∧ ok = .bool true ∧ i = .int .i64 m ∧ I (3 + ss.length) n wr)
          case atStart => exact ⟨1, by omega, rfl, rfl, IJ⟩
          case round =>
            obtain ⟨m, hm, rfl, rfl, IM⟩ := hrel
            clear IJ cw2
            by_cases hm12 : m < 12
            · go_wp2_with fail
              refine (P.look 3 j m 0 0 IM hnp (Or.inl rfl) (by omega) (by omega) (by omega)).mono ?_
              rintro e w6 ⟨rfl, I6⟩
              clear IM
              go_wp2
              go_roundg (gk - 1)
              case rel => exact ⟨m + 1, by omega, rfl, by go_num, I6⟩
              case measure => omega
            · go_wp2_with fail
              refine (P.look 5 j 0 0 0 IM hnp (Or.inr rfl) (by omega) (by omega) (by omega)).mono ?_
              rintro e w6 ⟨rfl, I6⟩
              clear IM
              go_wp2
              go_roundg (n - (j + 1))
              case rel => exact ⟨j + 1, by omega, rfl, by go_num, I6⟩
              case measure => omega
        · go_wp2_with fail
          refine (P.looks IJ).mono ?_
          rintro e w7 ⟨rfl, I7⟩
          go_wp2
          go_ret
          exact ⟨rfl, P.bel I7⟩
end

end Go.Proofs.Ytekjgjhhjlcoaaa
