import Derived.Test.YtekjgjhhjlcoaaaRefA
namespace Go.Proofs.Ytekjgjhhjlcoaaa
open Go.RowKit

theorem due_is (pass : Int) (but : List Int) (k : Nat) (t : Tg.Tk) (a b c : Bool) (ha : (t.state == 1) = a) (hb : decide (pass ≤ t.count) = b) (hc : but.contains ((k : Int) + 1) = c) : Tg.dueB pass but k t = (a && b && !c) := by
  unfold Tg.dueB; rw [ha, hb, hc]
theorem band_is (band : Int) (but : List Int) (k : Nat) (t : Tg.Tk) (a b c : Bool) (ha : (t.state == 1) = a) (hb : (t.band == band) = b) (hc : but.contains ((k : Int) + 1) = c) : Tg.bandB band but k t = (a && b && !c) := by
  unfold Tg.bandB; rw [ha, hb, hc]

/-- The test has said no at all places ahead of k. -/
def NoTo (p : Nat → Tg.Tk → Bool) (l : List Tg.Tk) (k : Nat) : Prop := ∀ j, j < k → ∀ hl : j < l.length, p j l[j] = false
theorem NoTo.zero (p : Nat → Tg.Tk → Bool) (l : List Tg.Tk) : NoTo p l 0 := fun j hj => absurd hj (by omega)
theorem NoTo.succ {p : Nat → Tg.Tk → Bool} {l : List Tg.Tk} {k : Nat} (h : NoTo p l k) (hk : k < l.length) (hp : p k l[k] = false) : NoTo p l (k + 1) := by
  intro j hj hl
  by_cases e : j = k
  · subst e; exact hp
  · exact h j (by omega) hl
theorem NoTo.none {p : Nat → Tg.Tk → Bool} {l : List Tg.Tk} {k : Nat} (h : NoTo p l k) (hk : ¬ k < l.length) : Tg.first p 0 l = 0 :=
  Tg.first_none p l 0 fun j hj => by simpa using h j (by omega) hj
theorem NoTo.hit {p : Nat → Tg.Tk → Bool} {l : List Tg.Tk} {k : Nat} (h : NoTo p l k) (hk : k < l.length) (hp : p k l[k] = true) : Tg.first p 0 l = k + 1 := by
  have := Tg.first_some p l 0 k hk (by simpa using hp) (fun j hj => by simpa using h j hj (by omega))
  omega

theorem turn_hit_due {pass : Int} {but : List Int} {l : List Tg.Tk} {k : Nat} (h : Tg.first (Tg.dueB pass but) 0 l = k + 1) : Tg.turnBut pass but l = k + 1 := by
  unfold Tg.turnBut; rw [if_pos (by omega), h]

/-- No band below m has one. -/
def NoBands (but : List Int) (l : List Tg.Tk) (m : Nat) : Prop := ∀ j, j < m → Tg.first (Tg.bandB (j : Int) but) 0 l = 0

theorem NoBands.succ {but : List Int} {l : List Tg.Tk} {m : Nat} (h : NoBands but l m) (hp : Tg.first (Tg.bandB (m : Int) but) 0 l = 0) : NoBands but l (m + 1) := by
  intro j hj
  by_cases e : j = m
  · subst e; exact hp
  · exact h j (by omega)

theorem turn_hit_band {pass : Int} {but : List Int} {l : List Tg.Tk} {k m : Nat} (hd : Tg.first (Tg.dueB pass but) 0 l = 0) (hm : NoBands but l m) (h3 : m < 3) (h : Tg.first (Tg.bandB (m : Int) but) 0 l = k + 1) : Tg.turnBut pass but l = k + 1 := by
  unfold Tg.turnBut
  rw [if_neg (by omega)]
  match m, h3 with
  | 0, _ => simp only [Int.cast_ofNat_Int] at h; rw [if_pos (by omega), h]
  | 1, _ =>
    have h0 := hm 0 (by omega)
    simp only [Int.cast_ofNat_Int] at h h0
    rw [if_neg (by omega), if_pos (by omega), h]
  | 2, _ =>
    have h0 := hm 0 (by omega)
    have h1 := hm 1 (by omega)
    simp only [Int.cast_ofNat_Int] at h h0 h1
    rw [if_neg (by omega), if_neg (by omega), h]

theorem turn_hit_none {pass : Int} {but : List Int} {l : List Tg.Tk} (hd : Tg.first (Tg.dueB pass but) 0 l = 0) (hm : NoBands but l 3) : Tg.turnBut pass but l = 0 := by
  unfold Tg.turnBut
  have h0 := hm 0 (by omega)
  have h1 := hm 1 (by omega)
  have h2 := hm 2 (by omega)
  simp only [Int.cast_ofNat_Int] at h0 h1 h2
  rw [if_neg (by omega), if_neg (by omega), if_neg (by omega), h2]

set_option maxHeartbeats 2000000 in
theorem rturn_any (b : Nat) (g : Tg.Gt) (v bv : Value) (but : List Int) (w : World) (h : RG w b g v) (hb : Ints w bv but) (hn : g.all.length ≤ 4398046511104) :
    Calls Try.prog 90 #[.pointer (some ⟨b, 0, none⟩), bv] w fun e w' => e = .returned (.int .i64 (Tg.turnBut g.pass but g.all : Nat)) ∧ ∃ n, w' = w.drewN n := by
  obtain ⟨ao, cap, rfl, hao⟩ := h.form
  have c3 := h.c3
  have c1 := h.c1
  have H := h; clear h
  go_enter Try.func90, Try.ntmps90
  go_wp2
  go_loopw [5] (fun i wr => ∃ k : Nat, k ≤ g.all.length ∧ i = .int .i64 k ∧ NoTo (Tg.dueB g.pass but) g.all k ∧ ∃ n, wr = w.drewN n) (fun i _ => g.all.length - (intOf i).toNat)
  case atStart => exact ⟨0, Nat.zero_le _, rfl, NoTo.zero _ _, 0, rfl⟩
  case round =>
    obtain ⟨k, hk, rfl, HD, n, rfl⟩ := hrel
    by_cases hlt : k < g.all.length
    · obtain ⟨ab, rfl⟩ := hao k hlt
      have s4 := H.at rfl k 4 hlt (by omega)
      have s3 := H.at rfl k 3 hlt (by omega)
      simp [tkCells] at s4 s3
      obtain ⟨cb, hcb⟩ : ∃ cb, but.contains ((k : Int) + 1) = cb := ⟨_, rfl⟩
      have HC := hid hcb; clear hcb
      by_cases h1 : g.all[k].state = 1
      · have h1' : (g.all[k].state == 1) = true := by simp [h1]
        clear h1
        by_cases h2 : g.pass ≤ g.all[k].count
        · have HB := hid (due_is g.pass but k g.all[k] _ _ _ h1' (decide_eq_true h2) HC.out)
          cases cb with
          | true =>
            go_wp2_with (go_at_call 99; refine (rin_is bv but _ true _ (hb.drewN n) HC.out).mono ?_; rintro e w' ⟨rfl, rfl⟩)
            go_quiet (fail)
            go_wp2
            go_roundw
            case rel => exact ⟨k + 1, by omega, by go_num, HD.succ hlt HB.out, _, rfl⟩
            case measure => simp [intOf]; omega
          | false =>
            go_wp2_with (go_at_call 99; refine (rin_is bv but _ false _ (hb.drewN n) HC.out).mono ?_; rintro e w' ⟨rfl, rfl⟩)
            go_quiet (fail)
            go_wp2
            go_ret
            have ht := turn_hit_due (HD.hit hlt HB.out)
            exact ⟨ret_int (by rw [ht]; simp), _, rfl⟩
        · have h2' : decide (g.pass ≤ g.all[k].count) = false := by simpa using h2
          have HB := hid (due_is g.pass but k g.all[k] _ _ _ h1' h2' HC.out)
          go_wp2_with (go_at_call 99; refine (rin_is bv but _ cb _ (hb.drewN n) HC.out).mono ?_; rintro e w' ⟨rfl, rfl⟩)
          go_quiet (fail)
          go_wp2
          go_roundw
          case rel => exact ⟨k + 1, by omega, by go_num, HD.succ hlt (by rw [HB.out]; simp), _, rfl⟩
          case measure => simp [intOf]; omega
      · have h1' : (g.all[k].state == 1) = false := by simp [h1]
        clear h1
        have HB := hid (due_is g.pass but k g.all[k] _ _ _ h1' rfl HC.out)
        go_wp2_with (go_at_call 99; refine (rin_is bv but _ cb _ (hb.drewN n) HC.out).mono ?_; rintro e w' ⟨rfl, rfl⟩)
        go_quiet (fail)
        go_wp2
        go_roundw
        case rel => exact ⟨k + 1, by omega, by go_num, HD.succ hlt (by rw [HB.out]; simp), _, rfl⟩
        case measure => simp [intOf]; omega
    · have HF := hid (HD.none hlt)
      clear HD
      go_wp2
      go_loopw [7] (fun i wr => ∃ m : Nat, m ≤ 3 ∧ i = .int .i64 m ∧ NoBands but g.all m ∧ ∃ n, wr = w.drewN n) (fun i _ => 3 - (intOf i).toNat)
      case atStart => exact ⟨0, by omega, rfl, fun j hj => absurd hj (by omega), _, rfl⟩
      case round =>
        obtain ⟨m, hm, rfl, HM, n2, rfl⟩ := hrel
        by_cases hm3 : m < 3
        · have hm3' : decide ((m : Int) < 3) = true := by simp; omega
          go_wp2
          go_loopg [8] g.all.length (fun r i wr => ∃ k : Nat, k + r = g.all.length ∧ i = .int .i64 k ∧ NoTo (Tg.bandB (m : Int) but) g.all k ∧ ∃ n, wr = w.drewN n)
          case atStart => exact ⟨0, by omega, rfl, NoTo.zero _ _, _, rfl⟩
          case round =>
            obtain ⟨j, hj, rfl, HJ, n3, rfl⟩ := hrel
            by_cases hjl : j < g.all.length
            · obtain ⟨ab, rfl⟩ := hao j hjl
              have s4 := H.at rfl j 4 hjl (by omega)
              have s1 := H.at rfl j 1 hjl (by omega)
              simp [tkCells] at s4 s1
              obtain ⟨cb, hcb⟩ : ∃ cb, but.contains ((j : Int) + 1) = cb := ⟨_, rfl⟩
              have HC := hid hcb; clear hcb
              by_cases h1 : g.all[j].state = 1
              · have h1' : (g.all[j].state == 1) = true := by simp [h1]
                clear h1
                by_cases h2 : g.all[j].band = (m : Int)
                · have h2' : (g.all[j].band == (m : Int)) = true := by simp [h2]
                  clear h2
                  have HB := hid (band_is (m : Int) but j g.all[j] _ _ _ h1' h2' HC.out)
                  cases cb with
                  | true =>
                    go_wp2_with (go_at_call 99; refine (rin_is bv but _ true _ (hb.drewN n3) HC.out).mono ?_; rintro e w' ⟨rfl, rfl⟩)
                    go_roundg (gk - 1)
                    case rel => exact ⟨j + 1, by omega, by go_num, HJ.succ hjl HB.out, _, rfl⟩
                    case measure => omega
                  | false =>
                    go_wp2_with (go_at_call 99; refine (rin_is bv but _ false _ (hb.drewN n3) HC.out).mono ?_; rintro e w' ⟨rfl, rfl⟩)
                    go_ret
                    have ht := turn_hit_band HF.out HM hm3 (HJ.hit hjl HB.out)
                    exact ⟨ret_int (by rw [ht]; simp), _, rfl⟩
                · have h2' : (g.all[j].band == (m : Int)) = false := by simp [h2]
                  clear h2
                  have HB := hid (band_is (m : Int) but j g.all[j] _ _ _ h1' h2' HC.out)
                  go_wp2_with (go_at_call 99; refine (rin_is bv but _ cb _ (hb.drewN n3) HC.out).mono ?_; rintro e w' ⟨rfl, rfl⟩)
                  go_roundg (gk - 1)
                  case rel => exact ⟨j + 1, by omega, by go_num, HJ.succ hjl (by rw [HB.out]; simp), _, rfl⟩
                  case measure => omega
              · have h1' : (g.all[j].state == 1) = false := by simp [h1]
                clear h1
                have HB := hid (band_is (m : Int) but j g.all[j] _ _ _ h1' rfl HC.out)
                go_wp2_with (go_at_call 99; refine (rin_is bv but _ cb _ (hb.drewN n3) HC.out).mono ?_; rintro e w' ⟨rfl, rfl⟩)
                go_roundg (gk - 1)
                case rel => exact ⟨j + 1, by omega, by go_num, HJ.succ hjl (by rw [HB.out]; simp), _, rfl⟩
                case measure => omega
            · have HN := hid (HJ.none hjl)
              go_wp2
              go_roundw
              case rel => exact ⟨m + 1, by omega, by go_num, NoBands.succ HM HN.out, _, rfl⟩
              case measure => simp [intOf]; omega
        · have e : m = 3 := by omega
          subst e
          go_wp2
          go_ret
          exact ⟨ret_int (by rw [turn_hit_none HF.out HM]; rfl), _, rfl⟩

end Go.Proofs.Ytekjgjhhjlcoaaa
