import Derived.Test.YtekjgjhhjlcoaaaRefE
import Derived.Deep.DeepCutAuto
namespace Go.Proofs.Ytekjgjhhjlcoaaa
open Go.RowKit

theorem Moved.sub {w : World} {b : Nat} {v v' : Value} (h : Moved w v v') {i : Nat} (hi : RGs b v' i) : RGs b v i ∨ w.heap.size ≤ i := by
  rcases hi with x | x
  · exact Or.inl (Or.inl x)
  · rcases h with y | ⟨k, y, z⟩
    · exact Or.inl (Or.inr (by rw [← y]; exact x))
    · rw [y] at x; simp at x; subst x; exact Or.inr z

/-- How the new ticket stands. -/
def stOf (tn hd weight room wait : Int) : Int := if tn = 0 ∧ hd + weight ≤ room then 2 else if wait = 0 then 3 else 1
def tillOf (time wait : Int) : Int := if 0 < wait then time + wait else -1

theorem till_yes {time wait : Int} (h : 0 < wait) : time + wait = tillOf time wait := by unfold tillOf; rw [if_pos h]
theorem till_no {time wait : Int} (h : ¬ 0 < wait) : -1 = tillOf time wait := by unfold tillOf; rw [if_neg h]
theorem st_two {tn hd weight room wait : Int} (h1 : tn = 0) (h2 : hd + weight ≤ room) : 2 = stOf tn hd weight room wait := by unfold stOf; rw [if_pos ⟨h1, h2⟩]
theorem st_three {tn hd weight room wait : Int} (h1 : ¬ (tn = 0 ∧ hd + weight ≤ room)) (h2 : (wait == 0) = true) : 3 = stOf tn hd weight room wait := by unfold stOf; rw [if_neg h1, if_pos (eq_of_beq h2)]
theorem st_one {tn hd weight room wait : Int} (h1 : ¬ (tn = 0 ∧ hd + weight ≤ room)) (h2 : (wait == 0) = false) : 1 = stOf tn hd weight room wait := by unfold stOf; rw [if_neg h1, if_neg (by simpa using h2)]

theorem ticket_is (g : Tg.Gt) (weight band wait tn hd till st : Int) (h1 : (Tg.turn g.pass g.all : Int) = tn) (h2 : Tg.held g.all = hd) (h3 : till = tillOf g.time wait) (h4 : st = stOf tn hd weight g.room wait) : Tg.ticket g weight band wait = ⟨weight, band, till, 0, st⟩ := by
  subst h1 h2 h3 h4
  simp only [Tg.ticket, tillOf, stOf]
  congr 1
  by_cases h : Tg.turn g.pass g.all = 0
  · simp [h]
  · simp [h]

attribute [local go_sem] alloc_drewN setCell_drewN

set_option maxRecDepth 100000 in
set_option maxHeartbeats 2000000 in
theorem rask_good (b : Nat) (g : Tg.Gt) (v : Value) (weight band wait : Int) (w : World) (h : RG w b g v) (ok : Tg.GtOk g) (hn : g.all.length + 1 ≤ 3518437208883) (htm : g.time ≤ 4611686018427387904)
    (he : Tg.askErr weight band wait = 0) :
    Calls Try.prog 86 #[.pointer (some ⟨b, 0, none⟩), .int .i64 weight, .int .i64 band, .int .i64 wait] w fun e w' =>
      e = .returned (.tuple #[.int .i64 (Tg.ask g weight band wait).2.1, .int .i64 (Tg.ask g weight band wait).2.2.1, .int .i64 (Tg.ask g weight band wait).2.2.2]) ∧
      ∃ v', RG w' b (Tg.ask g weight band wait).1 v' ∧ Tch (RGs b v) w w' ∧ Moved w v v' := by
  have htok := Tg.ticket_ok g weight band wait ok he
  have ha : Tg.ask g weight band wait = (Tg.asked g weight band wait, (g.all.length : Int) + 1, ((Tg.asked g weight band wait).all.getD g.all.length ⟨0, 0, 0, 0, 0⟩).state, 0) := by unfold Tg.ask; rw [if_pos he]
  rw [ha]; clear ha
  have h1 : 1 ≤ weight ∧ weight ≤ 100 := by
    by_cases x : 1 ≤ weight ∧ weight ≤ 100
    · exact x
    · unfold Tg.askErr at he; rw [if_pos x] at he; simp at he
  have h2 : 0 ≤ band ∧ band ≤ 2 := by
    by_cases x : 0 ≤ band ∧ band ≤ 2
    · exact x
    · unfold Tg.askErr at he; rw [if_neg (by simpa using h1), if_pos x] at he; simp at he
  have h4 : wait = -1 ∨ (wait ≠ -1 ∧ 0 ≤ wait ∧ wait ≤ 1000000) := by
    by_cases x : wait ≠ -1 ∧ ¬ (0 ≤ wait ∧ wait ≤ 1000000)
    · unfold Tg.askErr at he; rw [if_neg (by simpa using h1), if_neg (by simpa using h2), if_pos x] at he; simp at he
    · by_cases y : wait = -1
      · exact Or.inl y
      · refine Or.inr ⟨y, ?_⟩
        by_cases z : 0 ≤ wait ∧ wait ≤ 1000000
        · exact z
        · exact absurd ⟨y, z⟩ x
  have hn2 : g.all.length ≤ 4398046511104 := by omega
  have hwt : -1 ≤ wait ∧ wait ≤ 1000000 := by omega
  have H1 := hid (within_yes h1)
  have H2 := hid (within_yes h2)
  obtain ⟨hd, hhd⟩ : ∃ hd, Tg.held g.all = hd := ⟨_, rfl⟩
  obtain ⟨tn, htn⟩ : ∃ tn : Int, (Tg.turn g.pass g.all : Int) = tn := ⟨_, rfl⟩
  have hhb := Tg.held_bounds _ _ ok.ok
  rw [hhd] at hhb
  have HH := hid hhd; clear hhd
  have HT := hid htn; clear htn
  have c0 := h.c0
  have c2 := h.c2
  have c3 := h.c3
  have t1 := ok.t1
  have hbl := h.lt b (Or.inl rfl)
  have r1 := ok.r1
  have r2 := ok.r2
  clear he
  have H4 : Hid ((wait != -1) = true → (decide (0 ≤ wait) && decide (wait ≤ 1000000)) = true) := hid (fun x => within_yes (by rcases h4 with y | y; exact absurd x (by simp [y]); exact y.2))
  clear h4
  obtain ⟨i0, hi, hz0, hz1, hz2⟩ := info_parts Try.infoTicket
  have HI : Hid (Try.prog.info? 127 = some i0 ∧ i0.zero = some (.agg #[.int .i64 0, .int .i64 0, .int .i64 0, .int .i64 0, .int .i64 0]) ∧ i0.size = 5 ∧ i0.bytes = 40) := hid ⟨hi, hz0, hz1, hz2⟩
  clear hi hz0 hz1 hz2
  cases h3' : (wait != -1)
  all_goals
    go_enter Try.func86, Try.ntmps86
    go_wp2_with fail
    refine (within_is _ _ _ true _ H1.out).mono ?_
    rintro e w' ⟨rfl, rfl⟩
    go_wp2_with fail
    refine (within_is _ _ _ true _ H2.out).mono ?_
    rintro e w' ⟨rfl, rfl⟩
    go_upto_if 39 with (first | (go_at_call 87; refine (within_is _ _ _ true _ (H4.out h3')).mono ?_; rintro e w' ⟨rfl, rfl⟩) | (go_at_call 90; refine (rturn_is b _ v tn _ h hn2 HT.out).mono ?_; rintro e w' ⟨rfl, n, rfl⟩) | (go_at_call 64; refine (rheld_is b _ v hd _ (h.drewN _) ok.ok hn2 HH.out).mono ?_; rintro e w' ⟨rfl, rfl⟩))
    go_cut [0] (fun p wc => p = .pointer (some ⟨b, 0, none⟩) ∧ ∃ till, wc = (w'.alloc (.cells #[.int .i64 weight, .int .i64 band, .int .i64 till, .int .i64 0, .int .i64 1] 127)).drewN n ∧ Hid (till = tillOf g.time wait))
    case first =>
      go_wp2
      all_goals
        go_meet
        case rel =>
          refine ⟨rfl, _, rfl, hid ?_⟩
          first | (refine till_yes ?_; omega) | (refine till_no ?_; omega)
    case rest =>
      obtain ⟨rfl, till, rfl, HTI⟩ := hcut
      go_step
      go_step
      go_cut [0, 11] (fun p _ wc => p = .pointer (some ⟨b, 0, none⟩) ∧ ∃ st, wc = (w'.alloc (.cells #[.int .i64 weight, .int .i64 band, .int .i64 till, .int .i64 0, .int .i64 st] 127)).drewN n ∧ Hid (st = stOf tn hd weight g.room wait))
      case first =>
        go_wp2
        all_goals
          go_meet
          case rel =>
            refine ⟨rfl, _, rfl, hid ?_⟩
            first | (apply st_two <;> omega) | (refine st_three ?_ ?_; omega; assumption) | (refine st_one ?_ ?_; omega; assumption)
      case rest =>
        obtain ⟨rfl, st, rfl, HST⟩ := hcut
        have htk := ticket_is g weight band wait tn hd till st HT.out HH.out HTI.out HST.out
        have HOK : Tg.GtOk { g with all := g.all ++ [⟨weight, band, till, 0, st⟩] } := ⟨ok.r1, ok.r2, ok.p1, ok.p2, ok.t1, ok.ok.snoc (by rw [← htk]; exact htok)⟩
        have HAS : Hid (Tg.asked g weight band wait = { g with all := Tg.letIn g.room g.pass (g.all ++ [⟨weight, band, till, 0, st⟩]) }) := hid (by unfold Tg.asked; rw [htk])
        clear htk HTI HST H1 H2 H4 htok c0 c2 h3'
        have HR := h.alloc (.cells #[.int .i64 weight, .int .i64 band, .int .i64 till, .int .i64 0, .int .i64 st] 127)
        go_wp2
        go_region_law (refine step_append_own rfl (.tmp 69) (.tmp 71) 123 rfl 127 i0 _ 5 40 Try.underlying123 HI.out.1 HI.out.2.1 HI.out.2.2.1 HI.out.2.2.2 rfl (by decide) v g.all.length (tksCells g.all) (by simp [Act.eval]) (by exact ((HR.drewN _).alloc _).row) ⟨w'.heap.size + 1, 0, none⟩ 1 1 (tkCells ⟨weight, band, till, 0, st⟩) (by simp [Act.eval]) rfl (by intro j u hj; rw [Addr.add_lit]; simp [World.cell?_alloc_at]; simpa [tkCells] using hj) (by intro u hu; simp [tkCells] at hu; rcases hu with rfl | rfl | rfl | rfl | rfl <;> rfl) (by unfold maxLen; omega) (by omega) ?_; intro v' w2 hown' hgrow hmv; obtain ⟨p1, p2, p3⟩ := ((HR.drewN _).alloc _).app hown' hgrow; obtain ⟨ab', cap', rfl⟩ := ownsRow_form hown' (by omega))
        all_goals
          have HT2 : Tch (RGs b v) w' (w2.setCell ⟨b, 3, none⟩ (.slice (some ⟨ab', 0, none⟩) (g.all.length + 1) cap')) := by
            refine (Tch.grown (S := RGs b v) ?_ hgrow (fun k hk => Or.inl (Or.inr hk))).setCell (p := ⟨b, 3, none⟩) (Or.inl (Or.inl rfl)) _
            repeat (first | exact Tch.refl _ _ | refine Tch.drewN ?_ _ | refine Tch.drew ?_ | refine Tch.alloc ?_ _)
          have HM : Moved w' v (.slice (some ⟨ab', 0, none⟩) (g.all.length + 1) cap') := by
            rcases hmv with x | ⟨k, x, y⟩
            · exact Or.inl x
            · exact Or.inr ⟨k, x, by simp at y; omega⟩
          clear HR hown' hgrow hmv p1 p2 c3
          go_wp2_with (go_at_call 89; refine (rlets_any b _ _ _ p3 HOK (by simp; omega)).mono ?_; rintro e w4 ⟨rfl, hr, ht⟩; have c3' := hr.c3)
          have hlast : g.all.length < (Tg.letIn g.room g.pass (g.all ++ [⟨weight, band, till, 0, st⟩])).length := by rw [Tg.letIn_length]; simp
          have s4 := hr.at rfl g.all.length 4 hlast (by omega)
          have e3 := wrapId (g.all.length : Int) (by omega) (by omega)
          simp [tkCells] at s4
          go_quiet (fail)
          go_wp2
          go_ret3
          rw [HAS.out]
          refine ⟨?_, _, hr.drewN _, ?_, HM⟩
          · simp [hlast]
          · refine Tch.drewN ?_ _
            exact HT2.trans' ht fun i hi => HM.sub hi

theorem rask_any (b : Nat) (g : Tg.Gt) (v : Value) (weight band wait : Int) (w : World) (h : RG w b g v) (ok : Tg.GtOk g) (hn : g.all.length + 1 ≤ 3518437208883) (htm : g.time ≤ 4611686018427387904) :
    Calls Try.prog 86 #[.pointer (some ⟨b, 0, none⟩), .int .i64 weight, .int .i64 band, .int .i64 wait] w fun e w' =>
      e = .returned (.tuple #[.int .i64 (Tg.ask g weight band wait).2.1, .int .i64 (Tg.ask g weight band wait).2.2.1, .int .i64 (Tg.ask g weight band wait).2.2.2]) ∧
      ∃ v', RG w' b (Tg.ask g weight band wait).1 v' ∧ Tch (RGs b v) w w' ∧ Moved w v v' := by
  by_cases he : Tg.askErr weight band wait = 0
  · exact rask_good b g v weight band wait w h ok hn htm he
  · refine (rask_err b weight band wait w he).mono ?_
    rintro e w' ⟨rfl, rfl⟩
    have ha : Tg.ask g weight band wait = (g, 0, 0, Tg.askErr weight band wait) := by unfold Tg.ask; rw [if_neg he]
    rw [ha]
    exact ⟨rfl, v, h, Tch.refl _ _, Or.inl rfl⟩

end Go.Proofs.Ytekjgjhhjlcoaaa
