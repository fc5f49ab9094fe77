import Derived.Test.YtekjgjhhjlcoaaaPrgP
import Derived.Test.YtekjgjhhjlcoaaaModH
namespace Go.Proofs.Ytekjgjhhjlcoaaa
open Go.RowKit Go.Conc Go.MuLone

section
variable {rd : Option Int} {w w' : World} {gb : Nat} {q : Gn} {g : Tg.Gt} {tv tv' : Value} {rs : List Rc} {ns : List Nd} {ixs : List Nat}

theorem PH.setTime (h : PH w gb q tv rs ns) (x : Int) : PH (w.setCell ⟨gb, 4, none⟩ (.int .i64 x)) gb { q with time := x } tv rs ns :=
  h.gateSet (fun _ hk => Below.heap_setCell _ _ _ _ hk) ((gate_set h.gate).2.2.1 x)
theorem PH.setRoom (h : PH w gb q tv rs ns) (x : Int) : PH (w.setCell ⟨gb, 2, none⟩ (.int .i64 x)) gb { q with room := x } tv rs ns :=
  h.gateSet (fun _ hk => Below.heap_setCell _ _ _ _ hk) ((gate_set h.gate).2.1 x)

theorem checkRoom_any (room : Int) (w : World) :
    Calls Try.prog 47 #[.int .i64 room] w fun e w' => e = .returned (.int .i64 (if 0 ≤ room ∧ room ≤ 1000 then 0 else 1)) ∧ w' = w := by
  by_cases h : 0 ≤ room ∧ room ≤ 1000
  · rw [if_pos h]
    go_enter Try.func47, Try.ntmps47
    go_wp2
    all_goals
      go_ret
      exact ⟨rfl, rfl⟩
  · rw [if_neg h]
    go_enter Try.func47, Try.ntmps47
    go_wp2
    all_goals
      go_ret
      exact ⟨rfl, rfl⟩

/-- A gate of the program as one thing: it is the model's gate g; S is what it is made of. -/
theorem lock_tch (w : World) (x : Int) : Tch (PS gb tv rs ns) w (w.setCell ⟨gb, 0, none⟩ (.int .i32 x)) := (Tch.refl _ _).setCell (p := ⟨gb, 0, none⟩) (Or.inl (PS.gate _ _ _ _)) _

theorem held_leave {l : List Tg.Tk} {k : Nat} (hk : k < l.length) (hs : l[k].state = 1) (s : Int) (h2 : s ≠ 2) : Tg.held (l.modify k (Tg.setState s)) = Tg.held l := by
  rw [Tg.held_modify l k hk s, if_neg (by omega), if_neg h2]; omega

set_option maxRecDepth 20000 in
set_option maxHeartbeats 1000000 in
theorem cancel_call (h : PG rd w gb g tv rs ns) (ok : Tg.GtOk g) (n : Int) (hn : g.all.length ≤ 10000000000000) :
    Calls Try.prog 30 #[.pointer (some ⟨gb, 0, none⟩), .int .i64 n] w fun e w' => e = .returned (.int .i64 (Tg.change g n 1 5).2) ∧ ∃ rs' ns', Left1 rd w gb tv rs ns w' (Tg.change g n 1 5).1 tv rs' ns' := by
  obtain ⟨ixs, hrel⟩ := h.rel
  have c0 := h.ph.gcell 0
  have f0 := h.ph.gfr 0
  have h1 := h.ph.lock
  have d0 := h1.gcell 0
  have df := h1.gfr 0
  simp [gnOf] at c0 d0
  have T1 := lock_tch (gb := gb) (tv := tv) (rs := rs) (ns := ns) w 1
  have T : Tch (PS gb tv rs ns) w ((w.setCell ⟨gb, 0, none⟩ (.int .i32 1)).setCell ⟨gb, 0, none⟩ (.int .i32 0)) := T1.trans (lock_tch _ 0)
  by_cases hv : 1 ≤ n ∧ n ≤ g.all.length
  · obtain ⟨k, rfl⟩ : ∃ k : Nat, n = (k : Int) + 1 := ⟨(n - 1).toNat, by omega⟩
    have hk : k < g.all.length := by omega
    have hkr : k < rs.length := by rw [hrel.len]; exact hk
    have ro := hrel.recAt k hkr hk
    have HF := find_good h1 k hkr
    by_cases he : g.all[k].state = 1
    · have hs : Tg.change g ((k : Int) + 1) 1 5 = ({ g with all := Tg.letIn g.room g.pass (g.all.modify k (Tg.setState 5)) }, 0) := by
        unfold Tg.change; rw [if_pos hv]; simp [hk, he]
      rw [hs]
      have HO : isOpen rs[k] = true := by rw [ro.opn, he]; rfl
      have HW := waits_is h1 (List.getElem_mem hkr) true HO
      obtain ⟨m, hm⟩ := hrel.at (List.getElem?_eq_getElem hk) he
      obtain ⟨hmk, e1, e2⟩ := hrel.place hm
      have HPL := place_any h1 ((k : Int) + 1) m hmk e1 e2
      have hrc : ns[m].rcd = rs[k].blk := by
        obtain ⟨nd, r, t, q1, q2, _, no⟩ := hrel.node m k hm
        rw [List.getElem?_eq_getElem hmk] at q1
        rw [List.getElem?_eq_getElem hkr] at q2
        simp at q1 q2
        rw [q1, q2]; exact no.rcd
      have HLV := leave_any h1 m hmk k hkr hrc 5
      have hrel1 := hrel.leave hm hkr 5 (by omega)
      have hok1 : Tg.GtOk { g with all := g.all.modify k (Tg.setState 5) } := ⟨ok.r1, ok.r2, ok.p1, ok.p2, ok.t1, ok.ok.modify _ _ fun hk => (ok.ok _ (List.getElem_mem hk)).set 5 (by omega) (by omega) (by omega)⟩
      have eg : gnOf rd 1 { g with all := g.all.modify k (Tg.setState 5) } = gnOf rd 1 g := by
        simp only [gnOf]
        rw [held_leave hk he 5 (by omega)]
      have EG := hid eg
      have HM := hid hm
      obtain ⟨bm, ebm⟩ : ∃ b, ns[m].blk = b := ⟨_, rfl⟩
      rw [ebm] at HPL HLV
      clear hs hv he ro eg hm e1 e2 hrc HO ebm
      go_enter_defers Try.func30, Try.ntmps30
      go_wp2_with (first | (go_at_call 35; refine (lock_free Try.muLib ⟨gb, 0, none⟩ _ c0 f0).mono ?_; rintro e w' ⟨rfl, rfl⟩) | (go_at_call 48; refine HF.mono ?_; rintro e w' ⟨rfl, rfl⟩) | (go_at_call 52; refine HW.mono ?_; rintro e w' ⟨rfl, rfl⟩) | (go_at_call 54; refine HPL.mono ?_; rintro e w' ⟨rfl, rfl⟩) | fail)
      refine HLV.mono ?_
      rintro e w3 ⟨rfl, hp3, ht3⟩
      rw [← EG.out] at hp3
      have HLI := letIn_any hp3 hrel1 hok1 (by simpa using hn)
      clear HF HW HPL HLV
      go_wp2_with fail
      refine HLI.mono ?_
      rintro e w5 ⟨rfl, rs5, ns5, ixs5, L5⟩
      clear HLI
      go_wp2
      have D0 := L5.ph.gcell 0
      have DF := L5.ph.gfr 0
      simp [gnOf] at D0
      refine leaves_cons (f := 36) (args := #[.pointer (some ⟨gb, 0, none⟩)]) (by simp) (by simp [go_sem]) ?_
      refine (unlock_deferred Try.muLib ⟨gb, 0, none⟩ .returning _ D0 DF).mono ?_
      rintro e u' w'' ⟨rfl, rfl, rfl⟩
      have sub : ∀ x, PS gb tv rs5 ns5 x → PS gb tv rs ns x := fun x hx => PS.sub_nodes (erase_sub m ns) (PS.sub_settle hkr 5 (L5.sub x hx))
      refine ⟨_, results_tmp rfl _ _ _, rfl, rs5, ns5, ⟨L5.ph.unlock, ⟨ixs5, L5.rel⟩⟩, ?_, fun x hx => Or.inl (sub x hx)⟩
      exact ((T1.trans ht3).trans' L5.tch fun x hx => Or.inl (PS.sub_nodes (erase_sub m ns) (PS.sub_settle hkr 5 hx))).setCell (p := ⟨gb, 0, none⟩) (Or.inl (PS.gate _ _ _ _)) _
    · have hs : Tg.change g ((k : Int) + 1) 1 5 = (g, 7) := by
        unfold Tg.change; rw [if_pos hv]; simp [hk, he]
      rw [hs]
      have HO : isOpen rs[k] = false := by rw [ro.opn]; simpa using he
      have HW := waits_is h1 (List.getElem_mem hkr) false HO
      clear hs hv he ro HO
      go_enter_defers Try.func30, Try.ntmps30
      go_wp2_with (first | (go_at_call 35; refine (lock_free Try.muLib ⟨gb, 0, none⟩ _ c0 f0).mono ?_; rintro e w' ⟨rfl, rfl⟩) | (go_at_call 48; refine HF.mono ?_; rintro e w' ⟨rfl, rfl⟩) | (go_at_call 52; refine HW.mono ?_; rintro e w' ⟨rfl, rfl⟩))
      refine leaves_cons (f := 36) (args := #[.pointer (some ⟨gb, 0, none⟩)]) (by simp) (by simp [go_sem]) ?_
      refine (unlock_deferred Try.muLib ⟨gb, 0, none⟩ .returning _ d0 df).mono ?_
      rintro e u' w'' ⟨rfl, rfl, rfl⟩
      exact ⟨_, results_tmp rfl _ _ _, rfl, rs, ns, ⟨h1.unlock, h.rel⟩, T, fun x hx => Or.inl hx⟩
  · have hs : Tg.change g n 1 5 = (g, 6) := by unfold Tg.change; rw [if_neg hv]
    rw [hs]
    have hv' : ¬ (1 ≤ n ∧ n ≤ rs.length) := by rw [hrel.len]; exact hv
    have HB := find_bad h1 n hv'
    clear hs hv
    go_enter_defers Try.func30, Try.ntmps30
    go_wp2_with (first | (go_at_call 35; refine (lock_free Try.muLib ⟨gb, 0, none⟩ _ c0 f0).mono ?_; rintro e w' ⟨rfl, rfl⟩) | (go_at_call 48; refine HB.mono ?_; rintro e w' ⟨rfl, rfl⟩))
    refine leaves_cons (f := 36) (args := #[.pointer (some ⟨gb, 0, none⟩)]) (by simp) (by simp [go_sem]) ?_
    refine (unlock_deferred Try.muLib ⟨gb, 0, none⟩ .returning _ d0 df).mono ?_
    rintro e u' w'' ⟨rfl, rfl, rfl⟩
    exact ⟨_, results_tmp rfl _ _ _, rfl, rs, ns, ⟨h1.unlock, h.rel⟩, T, fun x hx => Or.inl hx⟩

set_option maxRecDepth 20000 in
set_option maxHeartbeats 1000000 in
theorem tick_call (h : PG rd w gb g tv rs ns) (ok : Tg.GtOk g) (hn : g.all.length ≤ 10000000000000) (ht : g.time ≤ 4611686018427387904) :
    Calls Try.prog 22 #[.pointer (some ⟨gb, 0, none⟩)] w fun e w' => e = .returned (.tuple #[]) ∧ ∃ rs' ns', Left1 rd w gb tv rs ns w' (Tg.tick g) tv rs' ns' := by
  obtain ⟨ixs, hrel⟩ := h.rel
  have c0 := h.ph.gcell 0
  have f0 := h.ph.gfr 0
  have h1 := h.ph.lock
  have d4 := h1.gcell 4
  have df4 := h1.gfr 4
  simp [gnOf] at c0 d4
  have t1 := ok.t1
  have e1 := wrapId (g.time + 1) (by omega) (by omega)
  have T1 := lock_tch (gb := gb) (tv := tv) (rs := rs) (ns := ns) w 1
  have h2 := h1.setTime (g.time + 1)
  have T2 : Tch (PS gb tv rs ns) w ((w.setCell ⟨gb, 0, none⟩ (.int .i32 1)).setCell ⟨gb, 4, none⟩ (.int .i64 (g.time + 1))) := T1.setCell (p := ⟨gb, 4, none⟩) (Or.inl (PS.gate _ _ _ _)) _
  have HD0 := dropLate_any h2 hrel
  go_enter_defers Try.func22, Try.ntmps22
  go_wp2_with (first | (go_at_call 35; refine (lock_free Try.muLib ⟨gb, 0, none⟩ _ c0 f0).mono ?_; rintro e w' ⟨rfl, rfl⟩) | fail)
  refine HD0.mono ?_
  rintro e w3 ⟨rfl, rs3, ns3, ixs3, p3, R3⟩
  clear HD0
  have hok3 : Tg.GtOk { g with time := g.time + 1, all := g.all.map (Tg.lateT (g.time + 1)) } := ⟨ok.r1, ok.r2, ok.p1, ok.p2, by show 0 ≤ g.time + 1; omega, fun t hm => by
    obtain ⟨u, hu, rfl⟩ := List.mem_map.1 hm
    exact Tg.lateT_ok (ok.ok u hu)⟩
  have eg : gnOf rd 1 { g with time := g.time + 1, all := g.all.map (Tg.lateT (g.time + 1)) } = { gnOf rd 1 g with time := g.time + 1 } := by
    simp only [gnOf]
    rw [Tg.held_late]
  have HP3 : PH w3 gb (gnOf rd 1 { g with time := g.time + 1, all := g.all.map (Tg.lateT (g.time + 1)) }) tv rs3 ns3 := by rw [eg]; exact R3.ph
  have HLI := letIn_any HP3 R3.rel hok3 (by simpa using hn)
  clear eg
  go_wp2_with fail
  refine HLI.mono ?_
  rintro e w5 ⟨rfl, rs5, ns5, ixs5, L5⟩
  clear HLI
  go_wp2
  have D0 := L5.ph.gcell 0
  have DF := L5.ph.gfr 0
  simp [gnOf] at D0
  refine leaves_cons (f := 36) (args := #[.pointer (some ⟨gb, 0, none⟩)]) (by simp) (by simp [go_sem]) ?_
  refine (unlock_deferred Try.muLib ⟨gb, 0, none⟩ .returning _ D0 DF).mono ?_
  rintro e u' w'' ⟨rfl, rfl, rfl⟩
  refine ⟨_, results_none rfl _ _ _, rfl, rs5, ns5, ⟨L5.ph.unlock, ⟨ixs5, L5.rel⟩⟩, ?_, fun x hx => Or.inl (R3.sub x (L5.sub x hx))⟩
  exact ((T2.trans R3.tch).trans' L5.tch fun x hx => Or.inl (R3.sub x hx)).setCell (p := ⟨gb, 0, none⟩) (Or.inl (PS.gate _ _ _ _)) _

set_option maxRecDepth 20000 in
set_option maxHeartbeats 1000000 in
theorem resize_call (h : PG rd w gb g tv rs ns) (ok : Tg.GtOk g) (n : Int) (hn : g.all.length ≤ 10000000000000) :
    Calls Try.prog 24 #[.pointer (some ⟨gb, 0, none⟩), .int .i64 n] w fun e w' => e = .returned (.int .i64 (Tg.resize g n).2) ∧ ∃ rs' ns', Left1 rd w gb tv rs ns w' (Tg.resize g n).1 tv rs' ns' := by
  obtain ⟨ixs, hrel⟩ := h.rel
  have c0 := h.ph.gcell 0
  have f0 := h.ph.gfr 0
  have h1 := h.ph.lock
  have d0 := h1.gcell 0
  have df := h1.gfr 0
  have d2 := h1.gcell 2
  have df2 := h1.gfr 2
  simp [gnOf] at c0 d0 d2
  have T1 := lock_tch (gb := gb) (tv := tv) (rs := rs) (ns := ns) w 1
  have T : Tch (PS gb tv rs ns) w ((w.setCell ⟨gb, 0, none⟩ (.int .i32 1)).setCell ⟨gb, 0, none⟩ (.int .i32 0)) := T1.trans (lock_tch _ 0)
  have CK := checkRoom_any n
  by_cases hv : 0 ≤ n ∧ n ≤ 1000
  · rw [if_pos hv] at CK
    have hs : Tg.resize g n = ({ g with room := n, all := Tg.letIn n g.pass g.all }, 0) := by unfold Tg.resize; rw [if_pos hv]
    rw [hs]
    have h2 := h1.setRoom n
    have T2 : Tch (PS gb tv rs ns) w ((w.setCell ⟨gb, 0, none⟩ (.int .i32 1)).setCell ⟨gb, 2, none⟩ (.int .i64 n)) := T1.setCell (p := ⟨gb, 2, none⟩) (Or.inl (PS.gate _ _ _ _)) _
    have hok : Tg.GtOk { g with room := n } := ⟨hv.1, hv.2, ok.p1, ok.p2, ok.t1, ok.ok⟩
    have HLI := letIn_any (g := { g with room := n }) h2 hrel hok hn
    clear hs hv
    go_enter_defers Try.func24, Try.ntmps24
    go_wp2_with (first | (go_at_call 35; refine (lock_free Try.muLib ⟨gb, 0, none⟩ _ c0 f0).mono ?_; rintro e w' ⟨rfl, rfl⟩) | (go_at_call 47; refine (CK _).mono ?_; rintro e w' ⟨rfl, rfl⟩) | fail)
    refine HLI.mono ?_
    rintro e w5 ⟨rfl, rs5, ns5, ixs5, L5⟩
    clear HLI
    go_wp2
    have D0 := L5.ph.gcell 0
    have DF := L5.ph.gfr 0
    simp [gnOf] at D0
    refine leaves_cons (f := 36) (args := #[.pointer (some ⟨gb, 0, none⟩)]) (by simp) (by simp [go_sem]) ?_
    refine (unlock_deferred Try.muLib ⟨gb, 0, none⟩ .returning _ D0 DF).mono ?_
    rintro e u' w'' ⟨rfl, rfl, rfl⟩
    refine ⟨_, results_tmp rfl _ _ _, rfl, rs5, ns5, ⟨L5.ph.unlock, ⟨ixs5, L5.rel⟩⟩, ?_, fun x hx => Or.inl (L5.sub x hx)⟩
    exact (T2.trans L5.tch).setCell (p := ⟨gb, 0, none⟩) (Or.inl (PS.gate _ _ _ _)) _
  · rw [if_neg hv] at CK
    have hs : Tg.resize g n = (g, 1) := by unfold Tg.resize; rw [if_neg hv]
    rw [hs]
    clear hs hv
    go_enter_defers Try.func24, Try.ntmps24
    go_wp2_with (first | (go_at_call 35; refine (lock_free Try.muLib ⟨gb, 0, none⟩ _ c0 f0).mono ?_; rintro e w' ⟨rfl, rfl⟩) | (go_at_call 47; refine (CK _).mono ?_; rintro e w' ⟨rfl, rfl⟩))
    refine leaves_cons (f := 36) (args := #[.pointer (some ⟨gb, 0, none⟩)]) (by simp) (by simp [go_sem]) ?_
    refine (unlock_deferred Try.muLib ⟨gb, 0, none⟩ .returning _ d0 df).mono ?_
    rintro e u' w'' ⟨rfl, rfl, rfl⟩
    exact ⟨_, results_tmp rfl _ _ _, rfl, rs, ns, ⟨h1.unlock, h.rel⟩, T, fun x hx => Or.inl hx⟩
end

end Go.Proofs.Ytekjgjhhjlcoaaa
