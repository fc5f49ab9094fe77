import Derived.Test.YtekjgjhhjlcoaaaRefC
namespace Go.Proofs.Ytekjgjhhjlcoaaa
open Go.RowKit

set_option maxHeartbeats 400000 in
theorem rresize_any (b : Nat) (g : Tg.Gt) (v : Value) (n : Int) (w : World) (h : RG w b g v) (ok : Tg.GtOk g) (hn : g.all.length ≤ 4398046511104) :
    Calls Try.prog 70 #[.pointer (some ⟨b, 0, none⟩), .int .i64 n] w fun e w' => e = .returned (.int .i64 (Tg.resize g n).2) ∧ RG w' b (Tg.resize g n).1 v ∧ Tch (RGs b v) w w' := by
  have c0 := h.c0
  have f0 := h.fr 0
  by_cases hv : 0 ≤ n ∧ n ≤ 1000
  · have hs : Tg.resize g n = ({ g with room := n, all := Tg.letIn n g.pass g.all }, 0) := by unfold Tg.resize; rw [if_pos hv]
    rw [hs]
    clear hs
    have HW := hid (within_yes hv)
    have hok : Tg.GtOk { g with room := n } := ⟨hv.1, hv.2, ok.p1, ok.p2, ok.t1, ok.ok⟩
    clear hv
    go_enter Try.func70, Try.ntmps70
    go_wp2_with (first | (go_at_call 87; refine (within_is _ _ _ true _ HW.out).mono ?_; rintro e w' ⟨rfl, rfl⟩) | (go_at_call 89; refine (rlets_any b _ _ _ (h.room n) hok hn).mono ?_; rintro e w' ⟨rfl, hr, ht⟩))
    go_ret
    exact ⟨rfl, hr, ((Tch.refl _ _).setCell (p := ⟨b, 0, none⟩) (Or.inl (Or.inl rfl)) _).trans ht⟩
  · have hs : Tg.resize g n = (g, 1) := by unfold Tg.resize; rw [if_neg hv]
    rw [hs]
    clear hs
    have HW := hid (within_no hv)
    clear hv
    go_enter Try.func70, Try.ntmps70
    go_wp2_with (go_at_call 87; refine (within_is _ _ _ false _ HW.out).mono ?_; rintro e w' ⟨rfl, rfl⟩)
    go_ret
    exact ⟨rfl, h, Tch.refl _ _⟩

/-- The first k are looked at: late, if their time has come. -/
def lateTo (now : Int) (k : Nat) (l : List Tg.Tk) : List Tg.Tk := (l.take k).map (Tg.lateT now) ++ l.drop k

theorem lateTo_length (now : Int) (k : Nat) (l : List Tg.Tk) : (lateTo now k l).length = l.length := by simp [lateTo]; omega
theorem lateTo_zero (now : Int) (l : List Tg.Tk) : lateTo now 0 l = l := by simp [lateTo]
theorem lateTo_all (now : Int) (l : List Tg.Tk) : lateTo now l.length l = l.map (Tg.lateT now) := by simp [lateTo]
theorem lateTo_get (now : Int) (j : Nat) (l : List Tg.Tk) (i : Nat) : (lateTo now j l)[i]? = if i < j then l[i]?.map (Tg.lateT now) else l[i]? := by
  unfold lateTo
  rw [List.getElem?_append]
  by_cases hl : i < l.length
  · by_cases h : i < j
    · rw [if_pos (by simp; omega), if_pos h]
      simp [h]
    · rw [if_neg (by simp; omega), if_neg h]
      simp only [List.getElem?_drop, List.length_map, List.length_take]
      congr 1
      omega
  · rw [List.getElem?_eq_none (by omega : l.length ≤ i)]
    have h1 : (List.map (Tg.lateT now) (List.take j l))[i]? = none := List.getElem?_eq_none (by simp; omega)
    have h2 : (List.drop j l)[i - (List.map (Tg.lateT now) (List.take j l)).length]? = none := List.getElem?_eq_none (by simp; omega)
    rw [h1, h2]
    simp
theorem lateTo_at (now : Int) (k : Nat) (l : List Tg.Tk) (hk : k < l.length) : (lateTo now k l)[k]'(by rw [lateTo_length]; exact hk) = l[k] := by
  apply Option.some.inj
  rw [← List.getElem?_eq_getElem, lateTo_get, if_neg (by omega), List.getElem?_eq_getElem hk]
theorem lateTo_succ (now : Int) (k : Nat) (l : List Tg.Tk) : lateTo now (k + 1) l = (lateTo now k l).modify k (Tg.lateT now) := by
  apply List.ext_getElem?
  intro i
  rw [lateTo_get, List.getElem?_modify, lateTo_get]
  by_cases e : k = i
  · subst e; simp
  · by_cases h : i < k
    · rw [if_pos (by omega), if_pos h]; simp [e]
    · rw [if_neg (by omega), if_neg h]; simp [e]

theorem tk_late (t : Tg.Tk) (now : Int) (h : t.state = 1 ∧ t.till = now) : tkCells (Tg.lateT now t) = (tkCells t).set 4 (.int .i64 4) := by
  unfold Tg.lateT; rw [if_pos h]; rfl

set_option maxHeartbeats 1000000 in
theorem rtick_any (b : Nat) (g : Tg.Gt) (v : Value) (w : World) (h : RG w b g v) (ok : Tg.GtOk g) (hn : g.all.length ≤ 4398046511104) (htm : g.time ≤ 4611686018427387904) :
    Calls Try.prog 68 #[.pointer (some ⟨b, 0, none⟩)] w fun e w' => e = .returned (.tuple #[]) ∧ RG w' b (Tg.tick g) v ∧ Tch (RGs b v) w w' := by
  obtain ⟨ao, cap, rfl, hao⟩ := h.form
  have c2 := h.c2
  have f2 := h.fr 2
  have t1 := ok.t1
  have R0 := h.time (g.time + 1)
  go_enter Try.func68, Try.ntmps68
  go_wp2
  go_loopg [2] g.all.length (fun r i wr => ∃ k : Nat, k + r = g.all.length ∧ i = .int .i64 k ∧ RG wr b { g with time := g.time + 1, all := lateTo (g.time + 1) k g.all } (.slice ao g.all.length cap) ∧ Tch (RGs b (.slice ao g.all.length cap)) w wr)
  case atStart => exact ⟨0, by omega, rfl, by rw [lateTo_zero]; exact R0, (Tch.refl _ _).setCell (p := ⟨b, 2, none⟩) (Or.inl (Or.inl rfl)) _⟩
  case round =>
    obtain ⟨k, hk, rfl, RK, TK⟩ := hrel
    clear c2 f2 R0
    have c2 := RK.c2
    have c3 := RK.c3
    simp only at c2
    by_cases hlt : k < g.all.length
    · obtain ⟨ab, rfl⟩ := hao k hlt
      have hkb : k < (lateTo (g.time + 1) k g.all).length := by rw [lateTo_length]; exact hlt
      have ea := lateTo_at (g.time + 1) k g.all hlt
      have s4 := RK.at rfl k 4 hkb (by omega)
      have s2 := RK.at rfl k 2 hkb (by omega)
      have f4 := RK.frow rfl (k * 5 + 4)
      simp only [ea] at s4 s2
      simp [tkCells] at s4 s2
      have EA := hid ea; clear ea
      by_cases h1 : g.all[k].state = 1
      · have h1' : (g.all[k].state == 1) = true := by simp [h1]
        have H1 := hid h1; clear h1
        by_cases h2 : g.all[k].till = g.time + 1
        · have h2' : (g.all[k].till == g.time + 1) = true := by simp [h2]
          have H2 := hid h2; clear h2
          go_wp2
          go_quiet (fail)
          go_wp2
          go_roundg (gk - 1)
          case rel =>
            refine ⟨k + 1, by omega, by go_num, ?_, (TK.drewN _).setCell (p := ⟨ab, k * 5 + 4, none⟩) (Or.inl (Or.inr rfl)) _⟩
            rw [lateTo_succ]
            exact (RK.drewN _).put rfl k 4 (Tg.lateT (g.time + 1)) _ hkb (by omega) (by rw [EA.out]; exact tk_late _ _ ⟨H1.out, H2.out⟩)
          case measure => omega
        · have h2' : (g.all[k].till == g.time + 1) = false := by simp [h2]
          have H2 := hid h2; clear h2
          go_wp2
          go_quiet (fail)
          go_wp2
          go_roundg (gk - 1)
          case rel =>
            refine ⟨k + 1, by omega, by go_num, ?_, TK.drewN _⟩
            rw [lateTo_succ, modify_id]
            · exact RK.drewN _
            · intro _; rw [EA.out]; unfold Tg.lateT; rw [if_neg (fun x => H2.out x.2)]
          case measure => omega
      · have h1' : (g.all[k].state == 1) = false := by simp [h1]
        have H1 := hid h1; clear h1
        go_wp2
        go_quiet (fail)
        go_wp2
        go_roundg (gk - 1)
        case rel =>
          refine ⟨k + 1, by omega, by go_num, ?_, TK.drewN _⟩
          rw [lateTo_succ, modify_id]
          · exact RK.drewN _
          · intro _; rw [EA.out]; unfold Tg.lateT; rw [if_neg (fun x => H1.out x.1)]
        case measure => omega
    · have e : k = g.all.length := by omega
      have RK' : RG wr b { g with time := g.time + 1, all := g.all.map (Tg.lateT (g.time + 1)) } (.slice ao g.all.length cap) := by
        have := RK; rw [e, lateTo_all] at this; exact this
      have hok : Tg.GtOk { g with time := g.time + 1, all := g.all.map (Tg.lateT (g.time + 1)) } :=
        ⟨ok.r1, ok.r2, ok.p1, ok.p2, by show 0 ≤ g.time + 1; omega, fun t ht => by obtain ⟨u, hu, rfl⟩ := List.mem_map.1 ht; exact Tg.lateT_ok (ok.ok u hu)⟩
      clear RK e
      go_wp2_with (go_at_call 89; refine (rlets_any b _ _ _ RK' hok (by simpa using hn)).mono ?_; rintro e w' ⟨rfl, hr, ht⟩)
      go_end0
      exact ⟨rfl, hr, TK.trans ht⟩

set_option maxHeartbeats 400000 in
theorem rnew_any (room pass : Int) (w : World) :
    Calls Try.prog 84 #[.int .i64 room, .int .i64 pass] w fun e w' =>
      (Tg.newErr room pass = 0 ∧ e = .returned (.tuple #[.pointer (some ⟨w.heap.size, 0, none⟩), .int .i64 0]) ∧ RG w' w.heap.size (Tg.fresh room pass) (.slice none 0 0) ∧ Tch (fun _ => False) w w') ∨
      (Tg.newErr room pass ≠ 0 ∧ e = .returned (.tuple #[.pointer none, .int .i64 (Tg.newErr room pass)]) ∧ w' = w) := by
  by_cases h1 : 0 ≤ room ∧ room ≤ 1000
  · have H1 := hid (within_yes h1)
    by_cases h2 : 0 ≤ pass ∧ pass ≤ 20
    · have H2 := hid (within_yes h2)
      have he : Tg.newErr room pass = 0 := by unfold Tg.newErr; rw [if_neg (by simpa using h1), if_neg (by simpa using h2)]
      have HE := hid he; clear he h1 h2
      go_enter Try.func84, Try.ntmps84
      go_wp2_with fail
      refine (within_is _ _ _ true _ H1.out).mono ?_
      rintro e w' ⟨rfl, rfl⟩
      go_wp2_with fail
      refine (within_is _ _ _ true _ H2.out).mono ?_
      rintro e w' ⟨rfl, rfl⟩
      go_wp2
      go_ret2
      refine Or.inl ⟨HE.out, rfl, ⟨?_, ?_⟩, (Tch.refl _ _).alloc _⟩
      · exact heap_alloc_new _ _
      · exact World.ownsRow_nil _ _ _ _
    · have H2 := hid (within_no h2)
      have he : Tg.newErr room pass = 2 := by unfold Tg.newErr; rw [if_neg (by simpa using h1), if_pos h2]
      have HE := hid he; clear he h1 h2
      go_enter Try.func84, Try.ntmps84
      go_wp2_with fail
      refine (within_is _ _ _ true _ H1.out).mono ?_
      rintro e w' ⟨rfl, rfl⟩
      go_wp2_with fail
      refine (within_is _ _ _ false _ H2.out).mono ?_
      rintro e w' ⟨rfl, rfl⟩
      go_wp2
      go_ret2
      exact Or.inr ⟨by rw [HE.out]; omega, by rw [HE.out]; rfl, rfl⟩
  · have H1 := hid (within_no h1)
    have he : Tg.newErr room pass = 1 := by unfold Tg.newErr; rw [if_pos h1]
    have HE := hid he; clear he h1
    go_enter Try.func84, Try.ntmps84
    go_wp2_with fail
    refine (within_is _ _ _ false _ H1.out).mono ?_
    rintro e w' ⟨rfl, rfl⟩
    go_wp2
    go_ret2
    exact Or.inr ⟨by rw [HE.out]; omega, by rw [HE.out]; rfl, rfl⟩

/-- The document's hall: a block of two cells. -/
def RHall (w : World) (hb b : Nat) (n : Int) : Prop := w.heap[hb]? = some (.cells #[.pointer (some ⟨b, 0, none⟩), .int .i64 n] 119 (0, 0))

set_option maxHeartbeats 400000 in
theorem rhall_any (n pass : Int) (w : World) :
    Calls Try.prog 85 #[.int .i64 n, .int .i64 pass] w fun e w' =>
      (Tg.hallErr n pass = 0 ∧ (∃ hb, e = .returned (.tuple #[.pointer (some ⟨hb, 0, none⟩), .int .i64 0]) ∧ RHall w' hb w.heap.size n ∧ w.heap.size < hb) ∧ RG w' w.heap.size (Tg.fresh n pass) (.slice none 0 0) ∧ Tch (fun _ => False) w w') ∨
      (Tg.hallErr n pass ≠ 0 ∧ e = .returned (.tuple #[.pointer none, .int .i64 (Tg.hallErr n pass)]) ∧ w' = w) := by
  by_cases h1 : 1 ≤ n ∧ n ≤ 100
  · have H1 := hid (within_yes h1)
    have he : Tg.hallErr n pass = Tg.newErr n pass := by unfold Tg.hallErr; rw [if_neg (by simpa using h1)]
    rw [he]
    have hn : Tg.newErr n pass = 0 ∨ Tg.newErr n pass = 2 := by
      unfold Tg.newErr
      rw [if_neg (by omega)]
      split <;> simp
    have HN := hid hn
    clear he h1 hn
    go_enter Try.func85, Try.ntmps85
    go_wp2_with fail
    refine (within_is _ _ _ true _ H1.out).mono ?_
    rintro e w' ⟨rfl, rfl⟩
    go_wp2_with fail
    refine (rnew_any n pass _).mono ?_
    rintro e w1 (⟨he, rfl, hr, ht⟩ | ⟨he, rfl, rfl⟩)
    · have HE := hid he; clear he
      go_wp2
      go_ret2
      refine Or.inl ⟨HE.out, ⟨w1.heap.size, rfl, heap_alloc_new _ _, by have := hr.lt _ (Or.inl rfl); omega⟩, ?_, ht.alloc _⟩
      exact hr.keep fun k hk => Below.heap_alloc _ _ _ (hr.lt k hk)
    · have e2 : Tg.newErr n pass = 2 := by rcases HN.out with x | x; exact absurd x he; exact x
      rw [e2]
      go_wp2
      go_ret2
      exact Or.inr ⟨by rw [e2]; omega, by rw [e2]; rfl, rfl⟩
  · have H1 := hid (within_no h1)
    have he : Tg.hallErr n pass = 1 := by unfold Tg.hallErr; rw [if_pos h1]
    rw [he]
    clear he h1
    go_enter Try.func85, Try.ntmps85
    go_wp2_with fail
    refine (within_is _ _ _ false _ H1.out).mono ?_
    rintro e w' ⟨rfl, rfl⟩
    go_wp2
    go_ret2
    exact Or.inr ⟨by omega, rfl, rfl⟩

end Go.Proofs.Ytekjgjhhjlcoaaa
