import Derived.Test.YtekjgjhhjlcoaaaRefT
namespace Go.Proofs.Ytekjgjhhjlcoaaa
open Go.RowKit

theorem rturn_is (b : Nat) (g : Tg.Gt) (v : Value) (n : Int) (w : World) (h : RG w b g v) (hn : g.all.length ≤ 4398046511104) (ht : (Tg.turn g.pass g.all : Int) = n) :
    Calls Try.prog 90 #[.pointer (some ⟨b, 0, none⟩), .slice none 0 0] w fun e w' => e = .returned (.int .i64 n) ∧ ∃ n, w' = w.drewN n := by
  subst ht; exact rturn_any b g v _ [] w h (Ints.nil w) hn

theorem rheld_is (b : Nat) (g : Tg.Gt) (v : Value) (n : Int) (w : World) (h : RG w b g v) (ok : Tg.TksOk g.pass g.all) (hn : g.all.length ≤ 4398046511104) (ht : Tg.held g.all = n) :
    Calls Try.prog 64 #[.pointer (some ⟨b, 0, none⟩)] w fun e w' => e = .returned (.int .i64 n) ∧ w' = w := by
  subst ht; exact rheld_any b g v w h ok hn

theorem tk_state (t : Tg.Tk) (s : Int) : tkCells (Tg.setState s t) = (tkCells t).set 4 (.int .i64 s) := rfl
theorem tk_bump (t : Tg.Tk) (h : t.state = 1) : tkCells (Tg.bumpT t) = (tkCells t).set 3 (.int .i64 (t.count + 1)) := by
  unfold Tg.bumpT; rw [if_pos h]; rfl
theorem modify_id (l : List Tg.Tk) (k : Nat) (f : Tg.Tk → Tg.Tk) (h : ∀ hk : k < l.length, f l[k] = l[k]) : l.modify k f = l := by
  apply List.ext_getElem
  · simp
  · intro i h1 h2
    rw [List.getElem_modify]
    split
    · rename_i e; subst e; exact h h2
    · rfl

/-- The gate as it is while it lets in. -/
structure LetR (w : World) (b : Nat) (g : Tg.Gt) (v : Value) (wr : World) (l : List Tg.Tk) : Prop where
  rg : RG wr b { g with all := l } v
  ok : Tg.TksOk g.pass l
  len : l.length = g.all.length
  same : Hid (Tg.letIn g.room g.pass l = Tg.letIn g.room g.pass g.all)
  tch : Tch (RGs b v) w wr

theorem bumpTo_at (l : List Tg.Tk) (k j : Nat) (f : Tg.Tk → Tg.Tk) (hj : j < k) (hl : j < l.length) : (Tg.bumpTo j (l.modify k f))[j]'(by simpa [Tg.bumpTo_length] using hl) = l[j] := by
  rw [Tg.bumpTo_getElem, if_neg (by omega), List.getElem_modify, if_neg (by omega)]

theorem LetR.step {w wr w2 : World} {b : Nat} {g : Tg.Gt} {v : Value} {l : List Tg.Tk} (R : LetR w b g v wr l) (hp : g.pass ≤ 20) (k : Nat) (hk : k < l.length) (ht : Tg.turn g.pass l = k + 1) (hf : Tg.held l + l[k].weight ≤ g.room)
    (hr : RG w2 b { g with all := Tg.enter k l } v) (hc : Tch (RGs b v) w w2) : LetR w b g v w2 (Tg.enter k l) :=
  ⟨hr, R.ok.enter hp k ht, by rw [Tg.enter_length]; exact R.len, by rw [← Tg.letIn_go _ _ _ k hk ht hf]; exact R.same, hc⟩

theorem LetR.stop {w wr w2 : World} {b : Nat} {g : Tg.Gt} {v : Value} {l : List Tg.Tk} (R : LetR w b g v wr l) (hs : Tg.letIn g.room g.pass l = l) (hb : ∀ k : Nat, w2.heap[k]? = wr.heap[k]?) (hc : Tch (RGs b v) w w2) :
    RG w2 b { g with all := Tg.letIn g.room g.pass g.all } v ∧ Tch (RGs b v) w w2 := by
  refine ⟨?_, hc⟩
  rw [← R.same.out, hs]
  exact R.rg.keep fun k _ => hb k

set_option maxHeartbeats 2000000 in
theorem rlets_any (b : Nat) (g : Tg.Gt) (v : Value) (w : World) (h : RG w b g v) (ok : Tg.GtOk g) (hn : g.all.length ≤ 4398046511104) :
    Calls Try.prog 89 #[.pointer (some ⟨b, 0, none⟩)] w fun e w' => e = .returned (.tuple #[]) ∧ RG w' b { g with all := Tg.letIn g.room g.pass g.all } v ∧ Tch (RGs b v) w w' := by
  obtain ⟨ao, cap, hv, hao⟩ := h.form
  have R0 : LetR w b g v w g.all := ⟨h, ok.ok, rfl, hid rfl, Tch.refl _ _⟩
  have r1 := ok.r1
  have r2 := ok.r2
  clear h
  go_enter Try.func89, Try.ntmps89
  go_wp2
  go_loopg [2] (Tg.waitN g.all) (fun r _ wr => ∃ l, Tg.waitN l = r ∧ LetR w b g v wr l)
  case atStart => exact ⟨g.all, rfl, R0⟩
  case round =>
    obtain ⟨l, rfl, R⟩ := hrel
    clear R0
    have hl := R.len
    have hl2 : l.length ≤ 4398046511104 := by omega
    have HL := hid hl; clear hl
    have hhb := Tg.held_bounds _ _ R.ok
    obtain ⟨hd, hhd⟩ : ∃ hd, Tg.held l = hd := ⟨_, rfl⟩
    rw [hhd] at hhb
    have HH := hid hhd; clear hhd
    have c3 := R.rg.c3
    have c0 := R.rg.c0
    have fr := R.rg.fr
    simp only at c0 c3
    cases ht : Tg.turn g.pass l with
    | zero =>
      have HT := hid ht; clear ht
      go_wp2_with (first | (go_at_call 90; refine (rturn_is b _ v 0 _ R.rg hl2 (by have := HT.out; show ((Tg.turn g.pass l : Nat) : Int) = 0; omega)).mono ?_; rintro e w' ⟨rfl, n, rfl⟩) | (go_at_call 64; refine (rheld_is b _ v hd _ (R.rg.drewN _) R.ok hl2 HH.out).mono ?_; rintro e w' ⟨rfl, rfl⟩))
      go_quiet (fail)
      go_wp2
      refine bodyPost_ret (results_none rfl _ _ _) rfl ?_
      exact ⟨rfl, R.stop (Tg.letIn_stop _ _ _ HT.out) (fun _ => rfl) ((R.tch.drewN _).drewN _)⟩
    | succ k =>
      have HT := hid ht
      obtain ⟨k', hk, hk', hs, _⟩ := Tg.turnBut_waits g.pass [] l (by have := ht; unfold Tg.turn at this; omega)
      obtain rfl : k' = k := by have := ht; unfold Tg.turn at this; omega
      clear ht hk'
      obtain ⟨ab, rfl⟩ := hao k' (by have := HL.out; omega)
      have s0 := R.rg.at hv k' 0 hk (by omega)
      have f4 := R.rg.frow hv (k' * 5 + 4)
      have s4 := R.rg.at hv k' 4 hk (by omega)
      have hwk := (R.ok _ (List.getElem_mem hk)).w1
      have hwk2 := (R.ok _ (List.getElem_mem hk)).w2
      simp [tkCells] at s0 s4
      have HS := hid hs; clear hs
      have hk2 : k' < g.all.length := by have := HL.out; omega
      have HV := hid hv
      subst hv
      have e1 := wrapId (k' : Int) (by omega) (by omega)
      have e2 := wrapId (hd + l[k'].weight) (by omega) (by omega)
      have hz : ((k' : Int) + 1 == 0) = false := by simp; omega
      by_cases hfit : hd + l[k'].weight ≤ g.room
      · have hdec : decide (g.room < hd + l[k'].weight) = false := by simpa using hfit
        go_wp2_with (first | (go_at_call 90; refine (rturn_is b _ _ ((k' : Int) + 1) _ R.rg hl2 (by have := HT.out; show ((Tg.turn g.pass l : Nat) : Int) = _; omega)).mono ?_; rintro e w' ⟨rfl, n, rfl⟩) | (go_at_call 64; refine (rheld_is b _ _ hd _ (R.rg.drewN _) R.ok hl2 HH.out).mono ?_; rintro e w' ⟨rfl, rfl⟩))
        go_quiet (fail)
        go_wp2
        go_loopg [4] k' (fun r i w2 => ∃ j : Nat, j + r = k' ∧ i = .int .i64 j ∧ RG w2 b { g with all := Tg.bumpTo j (l.modify k' (Tg.setState 2)) } (.slice (some ⟨ab, 0, none⟩) g.all.length cap) ∧ Tch (RGs b (.slice (some ⟨ab, 0, none⟩) g.all.length cap)) w w2)
        case atStart =>
          refine ⟨0, by omega, rfl, ?_, (R.tch.drewN _).setCell (p := ⟨ab, k' * 5 + 4, none⟩) (Or.inl (Or.inr rfl)) _⟩
          rw [Tg.bumpTo_zero]
          exact (R.rg.drewN _).put rfl k' 4 (Tg.setState 2) _ hk (by omega) (tk_state _ _)
        case round =>
          obtain ⟨j, hj, rfl, RJ, TJ⟩ := hrel
          by_cases hlt : j < k'
          · have hjl : j < l.length := by omega
            have hjl2 : j < g.all.length := by omega
            have hjb : j < (Tg.bumpTo j (l.modify k' (Tg.setState 2))).length := by simpa [Tg.bumpTo_length] using hjl
            have ea := bumpTo_at l k' j (Tg.setState 2) hlt hjl
            have s4j := RJ.at rfl j 4 hjb (by omega)
            have s3j := RJ.at rfl j 3 hjb (by omega)
            have f3j := RJ.frow rfl (j * 5 + 3)
            have c3j := RJ.c3
            simp only [ea] at s4j s3j
            simp [tkCells] at s4j s3j
            have oc := (R.ok _ (List.getElem_mem hjl)).c1
            have oc2 := (R.ok _ (List.getElem_mem hjl)).c2
            have EA := hid ea; clear ea
            clear s0 s4 f4 c3 c0 fr
            by_cases h1 : l[j].state = 1
            · have h1' : (l[j].state == 1) = true := by simp [h1]
              have H1 := hid h1; clear h1
              go_wp2
              go_roundg (gk - 1)
              case rel =>
                refine ⟨j + 1, by omega, by go_num, ?_, TJ.setCell (p := ⟨ab, j * 5 + 3, none⟩) (Or.inl (Or.inr rfl)) _⟩
                rw [Tg.bumpTo_succ]
                exact RJ.put rfl j 3 Tg.bumpT _ hjb (by omega) (by rw [EA.out]; exact tk_bump _ H1.out)
              case measure => omega
            · have h1' : (l[j].state == 1) = false := by simp [h1]
              have H1 := hid h1; clear h1
              go_wp2
              go_roundg (gk - 1)
              case rel =>
                refine ⟨j + 1, by omega, by go_num, ?_, TJ⟩
                rw [Tg.bumpTo_succ, modify_id]
                · exact RJ
                · intro _; rw [EA.out]; unfold Tg.bumpT; rw [if_neg H1.out]
              case measure => omega
          · obtain rfl : j = k' := by omega
            go_wp2
            go_roundg (Tg.waitN (Tg.enter j l))
            case rel => exact ⟨Tg.enter j l, rfl, R.step ok.p2 j hk HT.out (by rw [HH.out]; exact hfit) RJ TJ⟩
            case measure => have := Tg.waitN_enter l j hk HS.out; omega
      · go_wp2_with (first | (go_at_call 90; refine (rturn_is b _ _ ((k' : Int) + 1) _ R.rg hl2 (by have := HT.out; show ((Tg.turn g.pass l : Nat) : Int) = _; omega)).mono ?_; rintro e w' ⟨rfl, n, rfl⟩) | (go_at_call 64; refine (rheld_is b _ _ hd _ (R.rg.drewN _) R.ok hl2 HH.out).mono ?_; rintro e w' ⟨rfl, rfl⟩))
        go_quiet (fail)
        go_wp2
        refine bodyPost_ret (results_none rfl _ _ _) rfl ?_
        exact ⟨rfl, R.stop (Tg.letIn_full _ _ _ k' hk HT.out (by rw [HH.out]; omega)) (fun _ => rfl) ((R.tch.drewN _).drewN _)⟩

end Go.Proofs.Ytekjgjhhjlcoaaa
