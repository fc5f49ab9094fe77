import Derived.Test.YtekjgjhhjlcoaaaPrgM
namespace Go.Proofs.Ytekjgjhhjlcoaaa
open Go.RowKit Go.Conc Go.MuLone

section
variable {rd : Option Int} {w w' : World} {gb : Nat} {q : Gn} {g : Tg.Gt} {tv tv' : Value} {rs : List Rc} {ns : List Nd} {ixs : List Nat}

theorem PS.sub_add {rb : Nat} {weight : Int} {n0 : Nat} (hm : Moved w tv tv') (hn : n0 ≤ w.heap.size) (hr : n0 ≤ rb) {k : Nat} (hk : PS gb tv' (rs ++ [⟨rb, weight, 0, none⟩]) ns k) : PS gb tv rs ns k ∨ n0 ≤ k := by
  rcases hk with x | x | ⟨r, hr', x⟩ | ⟨r, hr', c, s, hc, x⟩ | x
  · exact Or.inl (Or.inl x)
  · rcases hm with y | ⟨j, y, z⟩
    · exact Or.inl (Or.inr (Or.inl (by rw [← y]; exact x)))
    · rw [y] at x; simp at x; subst x; exact Or.inr (by omega)
  · rcases List.mem_append.1 hr' with y | y
    · exact Or.inl (Or.inr (Or.inr (Or.inl ⟨r, y, x⟩)))
    · simp at y; subst y; subst x; exact Or.inr hr
  · rcases List.mem_append.1 hr' with y | y
    · exact Or.inl (Or.inr (Or.inr (Or.inr (Or.inl ⟨r, y, c, s, hc, x⟩))))
    · simp at y; subst y; simp at hc
  · exact Or.inl (Or.inr (Or.inr (Or.inr (Or.inr x))))

/-- What an Ask leaves: the gate, and that nothing else has changed. -/
structure Left1 (rd : Option Int) (w : World) (gb : Nat) (tv : Value) (rs : List Rc) (ns : List Nd) (w' : World) (g' : Tg.Gt) (tv' : Value) (rs' : List Rc) (ns' : List Nd) : Prop where
  pg : PG rd w' gb g' tv' rs' ns'
  tch : Tch (PS gb tv rs ns) w w'
  sub : ∀ k, PS gb tv' rs' ns' k → PS gb tv rs ns k ∨ w.heap.size ≤ k

theorem Rel.turn_ne {pass : Int} (h : Rel g.all rs ns ixs) (ok : Tg.TksOk pass g.all) (hns : ns ≠ []) : Tg.turn pass g.all ≠ 0 := by
  have hl : 0 < ixs.length := by rw [h.nlen]; exact List.length_pos_iff.2 hns
  obtain ⟨t, ht, hs⟩ := h.waits (List.getElem?_eq_getElem hl)
  obtain ⟨hi, e⟩ := List.getElem?_eq_some_iff.1 ht
  have tk := ok _ (List.getElem_mem hi)
  exact Tg.turn_pos pass g.all _ hi (by rw [e]; exact hs) tk.b1 tk.b2

theorem left_close {w5 : World} {g' : Tg.Gt} {rs' : List Rc} {ns' : List Nd} (h : PH w5 gb (gnOf rd 1 g') tv' rs' ns') (hr : ∃ ixs, Rel g'.all rs' ns' ixs) (ht : Tch (PS gb tv rs ns) w w5) (hs : ∀ k, PS gb tv' rs' ns' k → PS gb tv rs ns k ∨ w.heap.size ≤ k) (n : Nat) :
    Left1 rd w gb tv rs ns ((w5.drewN n).setCell ⟨gb, 0, none⟩ (.int .i32 0)) g' tv' rs' ns' :=
  ⟨⟨(h.drewN n).unlock, hr⟩, (ht.drewN n).setCell (p := ⟨gb, 0, none⟩) (Or.inl (PS.gate _ _ _ _)) _, hs⟩

attribute [local go_sem] alloc_drewN setCell_drewN

set_option maxRecDepth 20000 in
set_option maxHeartbeats 1000000 in
theorem ask_hold (h : PG rd w gb g tv rs ns) (ok : Tg.GtOk g) (weight band wait : Int) (he : Tg.askErr weight band wait = 0) (wt : 1 ≤ weight ∧ weight ≤ 100) (hn : g.all.length + 1 ≤ 10000000000000) (hns : ns = []) (hfit : Tg.held g.all + weight ≤ g.room) :
    Calls Try.prog 21 #[.pointer (some ⟨gb, 0, none⟩), .int .i64 weight, .int .i64 band, .int .i64 wait] w fun e w' => e = .returned (.tuple #[.int .i64 ((g.all.length : Int) + 1), .int .i64 ((Tg.asked g weight band wait).all.getD g.all.length ⟨0, 0, 0, 0, 0⟩).state, .int .i64 0]) ∧
      ∃ tv' rs' ns', Left1 rd w gb tv rs ns w' (Tg.asked g weight band wait) tv' rs' ns' := by
  obtain ⟨ixs, hrel⟩ := h.rel
  have hn' : rs.length + 1 ≤ 10000000000000 := by rw [hrel.len]; exact hn
  have c0 := h.ph.gcell 0
  have f0 := h.ph.gfr 0
  have h1 := h.ph.lock
  have d6 := h1.gcell 6
  simp [gnOf] at c0 d6
  have hgl := lt_of_block h.ph.gate
  have CK := checkAsk_any weight band wait
  rw [he] at CK
  obtain ⟨i0, hi, hz0, hz1, hz2⟩ := info_parts Try.infoPRec
  have HI : Hid (Try.prog.info? 83 = some i0 ∧ i0.zero = some (.pointer none) ∧ i0.size = 1 ∧ i0.bytes = 8) := hid ⟨hi, hz0, hz1, hz2⟩
  clear hi hz0 hz1 hz2
  have HR : PH ((w.setCell ⟨gb, 0, none⟩ (.int .i32 1)).alloc (.cells #[.int .i64 weight, .int .i64 0, .chan none] 86)) gb (gnOf rd 1 g) tv rs ns := h1.alloc _
  have hfresh : ∀ r ∈ rs, r.blk ≠ w.heap.size := fun r hr => by have := lt_of_block (h.ph.recs r hr); omega
  have T1 : Tch (PS gb tv rs ns) w (w.setCell ⟨gb, 0, none⟩ (.int .i32 1)) := (Tch.refl _ _).setCell (p := ⟨gb, 0, none⟩) (Or.inl (PS.gate _ _ _ _)) _
  have hb := Tg.held_bounds _ _ ok.ok
  have hw1 := wt.1
  have hw2 := wt.2
  go_enter_defers Try.func21, Try.ntmps21
  go_wp2_with (first | (go_at_call 35; refine (lock_free Try.muLib ⟨gb, 0, none⟩ _ c0 f0).mono ?_; rintro e w' ⟨rfl, rfl⟩) | (go_at_call 38; refine (CK _).mono ?_; rintro e w' ⟨rfl, rfl⟩) | (at_builtin; refine wpList_append_own2 rfl (.tmp 34) (.tmp 36) 63 rfl 83 i0 (.pointer none) 1 8 Try.underlying63 HI.out.1 HI.out.2.1 HI.out.2.2.1 HI.out.2.2.2 rfl (by decide) tv rs.length (rs.map fun r => pr r.blk) rfl ?c1 ⟨w.heap.size + 1, 0, none⟩ 1 1 [pr w.heap.size] rfl rfl ?c2 ?c3 ?c4 ?c5 ?_) | fail)
  case c1 => exact (HR.alloc _).row
  case c2 =>
    intro j u hj
    rw [Addr.add_lit, World.cell?_alloc_at _ _ _ _ (by simp)]
    cases j with
    | zero => simpa [pr] using hj
    | succ j => simp at hj
  case c3 => intro u hu; simp [pr] at hu; subst hu; rfl
  case c4 => unfold maxLen; omega
  case c5 => omega
  intro tv' w3 hown hgrow hmv
  have hrb : (((w.setCell ⟨gb, 0, none⟩ (.int .i32 1)).alloc (.cells #[.int .i64 weight, .int .i64 0, .chan none] 86)).alloc (.cells #[.pointer (some ⟨w.heap.size, 0, none⟩)] 83)).heap[w.heap.size]? = some (recObj ⟨w.heap.size, weight, 0, none⟩) := by
    rw [heap_al, if_neg (by simp), heap_al, if_pos (by simp)]; rfl
  obtain ⟨p1, p2, p3⟩ := (HR.alloc _).addRec w.heap.size weight hrb hfresh hown hgrow
  have T2 : Tch (PS gb tv rs ns) w (w3.setCell ⟨gb, 6, none⟩ tv') := (Tch.grown ((T1.alloc _).alloc _) hgrow (fun k hk => Or.inl (Or.inr (Or.inl hk)))).setCell (p := ⟨gb, 6, none⟩) (Or.inl (PS.gate _ _ _ _)) _
  have S2 : ∀ k, PS gb tv' (rs ++ [⟨w.heap.size, weight, 0, none⟩]) ns k → PS gb tv rs ns k ∨ w.heap.size ≤ k := fun k hk => PS.sub_add hmv (by simp; omega) (Nat.le_refl _) hk
  obtain ⟨ab, cp, rfl⟩ := ownsRow_form hown (by omega)
  have hix : rs.length < (rs ++ [(⟨w.heap.size, weight, 0, none⟩ : Rc)]).length := by simp
  have eix : (rs ++ [(⟨w.heap.size, weight, 0, none⟩ : Rc)])[rs.length]'hix = ⟨w.heap.size, weight, 0, none⟩ := by simp
  clear HR hown hgrow hmv hrb c0 f0 d6 HI CK T1
  have htn := hrel.turn_none g.pass hns
  have htk := ticket_is g weight band wait 0 _ _ 2 (by rw [htn]; rfl) rfl rfl (st_two rfl hfit)
  have has : Tg.asked g weight band wait = { g with all := g.all ++ [Tg.ticket g weight band wait] } := by
    unfold Tg.asked
    rw [Tg.Quiet.stays (Tg.Quiet.hold htn (by rw [htk]; simp))]
  have HFI := first_any p3
  rw [hns] at HFI
  have HF : Hid (decide ((gnOf rd 1 g).held + weight ≤ (gnOf rd 1 g).room) = true) := hid (decide_eq_true hfit)
  have HFT := fits_is p3 weight hb.1 (by show Tg.held g.all ≤ _; omega) (by omega) (by omega) true HF.out
  rw [show pn ([] : List Nd).head? = .pointer none from rfl] at HFI
  have HL5 : Hid ((rs.length : Int) = g.all.length) := hid (by rw [hrel.len])
  have HAS := hid has
  have HTK := hid htk
  clear hns hfit htn has htk
  go_wp2_with (first | (go_at_call 39; refine HFI.mono ?_; rintro e w' ⟨rfl, rfl⟩) | (go_at_call 40; refine HFT.mono ?_; rintro e w' ⟨rfl, nq, rfl⟩) | fail)
  have HH := hold_any (p3.drewN nq) rs.length hix hb.1 (by show Tg.held g.all ≤ _; omega) (by rw [eix]; show 0 ≤ weight; omega) (by rw [eix]; show weight ≤ _; omega)
  rw [eix] at HH
  refine HH.mono ?_
  rintro e w5 ⟨rfl, hp5, ht5⟩
  clear HH HFI HFT
  have er : (rs ++ [(⟨w.heap.size, weight, 0, none⟩ : Rc)]).set rs.length (settleR 2 ⟨w.heap.size, weight, 0, none⟩) = rs ++ [settleR 2 ⟨w.heap.size, weight, 0, none⟩] := by simp
  rw [er] at hp5
  have P5 : PH w5 gb (gnOf rd 1 (Tg.asked g weight band wait)) (.slice (some ⟨ab, 0, none⟩) (rs.length + 1) cp) (rs ++ [settleR 2 ⟨w.heap.size, weight, 0, none⟩]) ns := by
    have e : gnOf rd 1 (Tg.asked g weight band wait) = { gnOf rd 1 g with held := (gnOf rd 1 g).held + weight } := by
      rw [HAS.out]; simp only [gnOf]; rw [Tg.held_append, HTK.out]; simp [Tg.held]
    rw [e]; exact hp5
  have REL5 : ∃ ixs, Rel (Tg.asked g weight band wait).all (rs ++ [settleR 2 ⟨w.heap.size, weight, 0, none⟩]) ns ixs := by
    refine ⟨ixs, ?_⟩
    rw [HAS.out]
    refine hrel.snoc _ _ ⟨?_, ?_, ?_⟩ ?_
    · rw [HTK.out]; rfl
    · rw [HTK.out]; rfl
    · rw [HTK.out]; exact fun _ => rfl
    · rw [HTK.out]; simp
  have hm5 : settleR 2 ⟨w.heap.size, weight, 0, none⟩ ∈ rs ++ [settleR 2 ⟨w.heap.size, weight, 0, none⟩] := by simp
  have eb5 : (settleR 2 ⟨w.heap.size, weight, 0, none⟩).blk = w.heap.size := rfl
  obtain ⟨st5, es5⟩ : ∃ st5, recState (settleR 2 ⟨w.heap.size, weight, 0, none⟩) = st5 := ⟨_, rfl⟩
  have HS5 : Hid (st5 = ((Tg.asked g weight band wait).all.getD g.all.length ⟨0, 0, 0, 0, 0⟩).state) := by
    refine hid ?_
    rw [← es5, HAS.out, HTK.out]
    simp [recState, isOpen, settleR]
  have T5 : Tch (PS gb tv rs ns) w w5 := (T2.drewN nq).trans' ht5 fun k hk => S2 k hk
  have S5 : ∀ k, PS gb (.slice (some ⟨ab, 0, none⟩) (rs.length + 1) cp) (rs ++ [settleR 2 ⟨w.heap.size, weight, 0, none⟩]) ns k → PS gb tv rs ns k ∨ w.heap.size ≤ k := fun k hk => by
    rw [← er] at hk
    have hk2 : PS gb (.slice (some ⟨ab, 0, none⟩) (rs.length + 1) cp) ((rs ++ [(⟨w.heap.size, weight, 0, none⟩ : Rc)]).set rs.length (settleR 2 ((rs ++ [(⟨w.heap.size, weight, 0, none⟩ : Rc)])[rs.length]'hix))) ns k := by rw [eix]; exact hk
    exact S2 k (PS.sub_settle hix 2 hk2)
  have d0 := P5.gcell 0
  have df := P5.gfr 0
  have d6 := P5.gcell 6
  simp [gnOf] at d0 d6
  have SA : ∀ n, Calls Try.prog 45 #[.pointer (some ⟨w.heap.size, 0, none⟩)] (w5.drewN n) (fun e w'' => e = .returned (.int .i64 st5) ∧ w'' = w5.drewN n) := fun n => by
    have := state_any (P5.drewN n) hm5
    rw [eb5, es5] at this
    exact this
  have ES := hid es5
  clear es5 eb5
  go_wp2
  go_quiet ((go_at_call 45; exact Calls.quiet_of_same (SA _)))
  go_wp2
  refine leaves_cons (f := 36) (args := #[.pointer (some ⟨gb, 0, none⟩)]) (by simp) (by simp [go_sem]) ?_
  refine (unlock_deferred Try.muLib ⟨gb, 0, none⟩ .returning _ (by simpa using d0) (by simpa using df)).mono ?_
  rintro e u' w'' ⟨rfl, rfl, rfl⟩
  refine ⟨_, results_tmp3 rfl _ _ _, ?_, _, _, _, left_close P5 REL5 T5 S5 _⟩
  rw [← HS5.out, ← HL5.out]
  rfl

set_option maxRecDepth 20000 in
set_option maxHeartbeats 1000000 in
theorem ask_refuse_nil (h : PG rd w gb g tv rs ns) (ok : Tg.GtOk g) (weight band wait : Int) (he : Tg.askErr weight band wait = 0) (wt : 1 ≤ weight ∧ weight ≤ 100) (hn : g.all.length + 1 ≤ 10000000000000) (hq : Tg.Quiet g.room g.pass g.all) (hns : ns = []) (hfit : g.room < Tg.held g.all + weight) (hw0 : (wait == 0) = true) :
    Calls Try.prog 21 #[.pointer (some ⟨gb, 0, none⟩), .int .i64 weight, .int .i64 band, .int .i64 wait] w fun e w' => e = .returned (.tuple #[.int .i64 ((g.all.length : Int) + 1), .int .i64 ((Tg.asked g weight band wait).all.getD g.all.length ⟨0, 0, 0, 0, 0⟩).state, .int .i64 0]) ∧
      ∃ tv' rs' ns', Left1 rd w gb tv rs ns w' (Tg.asked g weight band wait) tv' rs' ns' := by
  obtain ⟨ixs, hrel⟩ := h.rel
  have hn' : rs.length + 1 ≤ 10000000000000 := by rw [hrel.len]; exact hn
  have c0 := h.ph.gcell 0
  have f0 := h.ph.gfr 0
  have h1 := h.ph.lock
  have d6 := h1.gcell 6
  simp [gnOf] at c0 d6
  have hgl := lt_of_block h.ph.gate
  have CK := checkAsk_any weight band wait
  rw [he] at CK
  obtain ⟨i0, hi, hz0, hz1, hz2⟩ := info_parts Try.infoPRec
  have HI : Hid (Try.prog.info? 83 = some i0 ∧ i0.zero = some (.pointer none) ∧ i0.size = 1 ∧ i0.bytes = 8) := hid ⟨hi, hz0, hz1, hz2⟩
  clear hi hz0 hz1 hz2
  have HR : PH ((w.setCell ⟨gb, 0, none⟩ (.int .i32 1)).alloc (.cells #[.int .i64 weight, .int .i64 0, .chan none] 86)) gb (gnOf rd 1 g) tv rs ns := h1.alloc _
  have hfresh : ∀ r ∈ rs, r.blk ≠ w.heap.size := fun r hr => by have := lt_of_block (h.ph.recs r hr); omega
  have T1 : Tch (PS gb tv rs ns) w (w.setCell ⟨gb, 0, none⟩ (.int .i32 1)) := (Tch.refl _ _).setCell (p := ⟨gb, 0, none⟩) (Or.inl (PS.gate _ _ _ _)) _
  have hb := Tg.held_bounds _ _ ok.ok
  have hw1 := wt.1
  have hw2 := wt.2
  go_enter_defers Try.func21, Try.ntmps21
  go_wp2_with (first | (go_at_call 35; refine (lock_free Try.muLib ⟨gb, 0, none⟩ _ c0 f0).mono ?_; rintro e w' ⟨rfl, rfl⟩) | (go_at_call 38; refine (CK _).mono ?_; rintro e w' ⟨rfl, rfl⟩) | (at_builtin; refine wpList_append_own2 rfl (.tmp 34) (.tmp 36) 63 rfl 83 i0 (.pointer none) 1 8 Try.underlying63 HI.out.1 HI.out.2.1 HI.out.2.2.1 HI.out.2.2.2 rfl (by decide) tv rs.length (rs.map fun r => pr r.blk) rfl ?c1 ⟨w.heap.size + 1, 0, none⟩ 1 1 [pr w.heap.size] rfl rfl ?c2 ?c3 ?c4 ?c5 ?_) | fail)
  case c1 => exact (HR.alloc _).row
  case c2 =>
    intro j u hj
    rw [Addr.add_lit, World.cell?_alloc_at _ _ _ _ (by simp)]
    cases j with
    | zero => simpa [pr] using hj
    | succ j => simp at hj
  case c3 => intro u hu; simp [pr] at hu; subst hu; rfl
  case c4 => unfold maxLen; omega
  case c5 => omega
  intro tv' w3 hown hgrow hmv
  have hrb : (((w.setCell ⟨gb, 0, none⟩ (.int .i32 1)).alloc (.cells #[.int .i64 weight, .int .i64 0, .chan none] 86)).alloc (.cells #[.pointer (some ⟨w.heap.size, 0, none⟩)] 83)).heap[w.heap.size]? = some (recObj ⟨w.heap.size, weight, 0, none⟩) := by
    rw [heap_al, if_neg (by simp), heap_al, if_pos (by simp)]; rfl
  obtain ⟨p1, p2, p3⟩ := (HR.alloc _).addRec w.heap.size weight hrb hfresh hown hgrow
  have T2 : Tch (PS gb tv rs ns) w (w3.setCell ⟨gb, 6, none⟩ tv') := (Tch.grown ((T1.alloc _).alloc _) hgrow (fun k hk => Or.inl (Or.inr (Or.inl hk)))).setCell (p := ⟨gb, 6, none⟩) (Or.inl (PS.gate _ _ _ _)) _
  have S2 : ∀ k, PS gb tv' (rs ++ [⟨w.heap.size, weight, 0, none⟩]) ns k → PS gb tv rs ns k ∨ w.heap.size ≤ k := fun k hk => PS.sub_add hmv (by simp; omega) (Nat.le_refl _) hk
  obtain ⟨ab, cp, rfl⟩ := ownsRow_form hown (by omega)
  have hix : rs.length < (rs ++ [(⟨w.heap.size, weight, 0, none⟩ : Rc)]).length := by simp
  have eix : (rs ++ [(⟨w.heap.size, weight, 0, none⟩ : Rc)])[rs.length]'hix = ⟨w.heap.size, weight, 0, none⟩ := by simp
  clear HR hown hgrow hmv hrb c0 f0 d6 HI CK T1
  have HNO : ¬ ((Tg.turn g.pass g.all : Int) = 0 ∧ Tg.held g.all + weight ≤ g.room) := fun x => by have := x.2; omega
  have htk := ticket_is g weight band wait _ _ _ 3 rfl rfl rfl (st_three HNO hw0)
  have has : Tg.asked g weight band wait = { g with all := g.all ++ [Tg.ticket g weight band wait] } := by
    unfold Tg.asked
    rw [Tg.Quiet.stays (Tg.Quiet.snoc hq (by rw [htk]; simp) (by rw [htk]; simp))]
  have HL5 : Hid ((rs.length : Int) = g.all.length) := hid (by rw [hrel.len])
  have HAS := hid has
  have HTK := hid htk
  have HFI := first_any p3
  rw [hns] at HFI
  rw [show pn ([] : List Nd).head? = .pointer none from rfl] at HFI
  have HF : Hid (decide ((gnOf rd 1 g).held + weight ≤ (gnOf rd 1 g).room) = false) := hid (decide_eq_false (by show ¬ (Tg.held g.all + weight ≤ g.room); omega))
  have HFT := fits_is p3 weight hb.1 (by show Tg.held g.all ≤ _; omega) (by omega) (by omega) false HF.out
  clear hns HNO htk has hfit
  go_wp2_with (first | (go_at_call 39; refine HFI.mono ?_; rintro e w' ⟨rfl, rfl⟩) | (go_at_call 40; refine HFT.mono ?_; rintro e w' ⟨rfl, nq, rfl⟩) | fail)
  have HH := settle_any (p3.drewN nq) rs.length hix 3
  rw [eix] at HH
  refine HH.mono ?_
  rintro e w5 ⟨rfl, hp5, ht5⟩
  clear HH HFI
  have er : (rs ++ [(⟨w.heap.size, weight, 0, none⟩ : Rc)]).set rs.length (settleR 3 ⟨w.heap.size, weight, 0, none⟩) = rs ++ [settleR 3 ⟨w.heap.size, weight, 0, none⟩] := by simp
  rw [er] at hp5
  have P5 : PH w5 gb (gnOf rd 1 (Tg.asked g weight band wait)) (.slice (some ⟨ab, 0, none⟩) (rs.length + 1) cp) (rs ++ [settleR 3 ⟨w.heap.size, weight, 0, none⟩]) ns := by
    have e : gnOf rd 1 (Tg.asked g weight band wait) = gnOf rd 1 g := by
      rw [HAS.out]; simp only [gnOf]; rw [Tg.held_append, HTK.out]; simp [Tg.held]
    rw [e]; exact hp5
  have REL5 : ∃ ixs, Rel (Tg.asked g weight band wait).all (rs ++ [settleR 3 ⟨w.heap.size, weight, 0, none⟩]) ns ixs := by
    refine ⟨ixs, ?_⟩
    rw [HAS.out]
    refine hrel.snoc _ _ ⟨?_, ?_, ?_⟩ ?_
    · rw [HTK.out]; rfl
    · rw [HTK.out]; rfl
    · rw [HTK.out]; exact fun _ => rfl
    · rw [HTK.out]; simp
  have hm5 : settleR 3 ⟨w.heap.size, weight, 0, none⟩ ∈ rs ++ [settleR 3 ⟨w.heap.size, weight, 0, none⟩] := by simp
  have eb5 : (settleR 3 ⟨w.heap.size, weight, 0, none⟩).blk = w.heap.size := rfl
  obtain ⟨st5, es5⟩ : ∃ st5, recState (settleR 3 ⟨w.heap.size, weight, 0, none⟩) = st5 := ⟨_, rfl⟩
  have HS5 : Hid (st5 = ((Tg.asked g weight band wait).all.getD g.all.length ⟨0, 0, 0, 0, 0⟩).state) := by
    refine hid ?_
    rw [← es5, HAS.out, HTK.out]
    simp [recState, isOpen, settleR]
  have T5 : Tch (PS gb tv rs ns) w w5 := (T2.drewN nq).trans' ht5 fun k hk => S2 k hk
  have S5 : ∀ k, PS gb (.slice (some ⟨ab, 0, none⟩) (rs.length + 1) cp) (rs ++ [settleR 3 ⟨w.heap.size, weight, 0, none⟩]) ns k → PS gb tv rs ns k ∨ w.heap.size ≤ k := fun k hk => by
    rw [← er] at hk
    have hk2 : PS gb (.slice (some ⟨ab, 0, none⟩) (rs.length + 1) cp) ((rs ++ [(⟨w.heap.size, weight, 0, none⟩ : Rc)]).set rs.length (settleR 3 ((rs ++ [(⟨w.heap.size, weight, 0, none⟩ : Rc)])[rs.length]'hix))) ns k := by rw [eix]; exact hk
    exact S2 k (PS.sub_settle hix 3 hk2)
  have d0 := P5.gcell 0
  have df := P5.gfr 0
  have d6 := P5.gcell 6
  simp [gnOf] at d0 d6
  have SA : ∀ n, Calls Try.prog 45 #[.pointer (some ⟨w.heap.size, 0, none⟩)] (w5.drewN n) (fun e w'' => e = .returned (.int .i64 st5) ∧ w'' = w5.drewN n) := fun n => by
    have := state_any (P5.drewN n) hm5
    rw [eb5, es5] at this
    exact this
  have ES := hid es5
  clear es5 eb5
  go_wp2
  go_quiet ((go_at_call 45; exact Calls.quiet_of_same (SA _)))
  go_wp2
  refine leaves_cons (f := 36) (args := #[.pointer (some ⟨gb, 0, none⟩)]) (by simp) (by simp [go_sem]) ?_
  refine (unlock_deferred Try.muLib ⟨gb, 0, none⟩ .returning _ (by simpa using d0) (by simpa using df)).mono ?_
  rintro e u' w'' ⟨rfl, rfl, rfl⟩
  refine ⟨_, results_tmp3 rfl _ _ _, ?_, _, _, _, left_close P5 REL5 T5 S5 _⟩
  rw [← HS5.out, ← HL5.out]
  rfl

set_option maxRecDepth 20000 in
set_option maxHeartbeats 1000000 in
theorem ask_refuse_some (h : PG rd w gb g tv rs ns) (ok : Tg.GtOk g) (weight band wait : Int) (he : Tg.askErr weight band wait = 0) (wt : 1 ≤ weight ∧ weight ≤ 100) (hn : g.all.length + 1 ≤ 10000000000000) (hq : Tg.Quiet g.room g.pass g.all) (hns : ns ≠ []) (hw0 : (wait == 0) = true) :
    Calls Try.prog 21 #[.pointer (some ⟨gb, 0, none⟩), .int .i64 weight, .int .i64 band, .int .i64 wait] w fun e w' => e = .returned (.tuple #[.int .i64 ((g.all.length : Int) + 1), .int .i64 ((Tg.asked g weight band wait).all.getD g.all.length ⟨0, 0, 0, 0, 0⟩).state, .int .i64 0]) ∧
      ∃ tv' rs' ns', Left1 rd w gb tv rs ns w' (Tg.asked g weight band wait) tv' rs' ns' := by
  obtain ⟨ixs, hrel⟩ := h.rel
  have hn' : rs.length + 1 ≤ 10000000000000 := by rw [hrel.len]; exact hn
  have c0 := h.ph.gcell 0
  have f0 := h.ph.gfr 0
  have h1 := h.ph.lock
  have d6 := h1.gcell 6
  simp [gnOf] at c0 d6
  have hgl := lt_of_block h.ph.gate
  have CK := checkAsk_any weight band wait
  rw [he] at CK
  obtain ⟨i0, hi, hz0, hz1, hz2⟩ := info_parts Try.infoPRec
  have HI : Hid (Try.prog.info? 83 = some i0 ∧ i0.zero = some (.pointer none) ∧ i0.size = 1 ∧ i0.bytes = 8) := hid ⟨hi, hz0, hz1, hz2⟩
  clear hi hz0 hz1 hz2
  have HR : PH ((w.setCell ⟨gb, 0, none⟩ (.int .i32 1)).alloc (.cells #[.int .i64 weight, .int .i64 0, .chan none] 86)) gb (gnOf rd 1 g) tv rs ns := h1.alloc _
  have hfresh : ∀ r ∈ rs, r.blk ≠ w.heap.size := fun r hr => by have := lt_of_block (h.ph.recs r hr); omega
  have T1 : Tch (PS gb tv rs ns) w (w.setCell ⟨gb, 0, none⟩ (.int .i32 1)) := (Tch.refl _ _).setCell (p := ⟨gb, 0, none⟩) (Or.inl (PS.gate _ _ _ _)) _
  have hb := Tg.held_bounds _ _ ok.ok
  have hw1 := wt.1
  have hw2 := wt.2
  go_enter_defers Try.func21, Try.ntmps21
  go_wp2_with (first | (go_at_call 35; refine (lock_free Try.muLib ⟨gb, 0, none⟩ _ c0 f0).mono ?_; rintro e w' ⟨rfl, rfl⟩) | (go_at_call 38; refine (CK _).mono ?_; rintro e w' ⟨rfl, rfl⟩) | (at_builtin; refine wpList_append_own2 rfl (.tmp 34) (.tmp 36) 63 rfl 83 i0 (.pointer none) 1 8 Try.underlying63 HI.out.1 HI.out.2.1 HI.out.2.2.1 HI.out.2.2.2 rfl (by decide) tv rs.length (rs.map fun r => pr r.blk) rfl ?c1 ⟨w.heap.size + 1, 0, none⟩ 1 1 [pr w.heap.size] rfl rfl ?c2 ?c3 ?c4 ?c5 ?_) | fail)
  case c1 => exact (HR.alloc _).row
  case c2 =>
    intro j u hj
    rw [Addr.add_lit, World.cell?_alloc_at _ _ _ _ (by simp)]
    cases j with
    | zero => simpa [pr] using hj
    | succ j => simp at hj
  case c3 => intro u hu; simp [pr] at hu; subst hu; rfl
  case c4 => unfold maxLen; omega
  case c5 => omega
  intro tv' w3 hown hgrow hmv
  have hrb : (((w.setCell ⟨gb, 0, none⟩ (.int .i32 1)).alloc (.cells #[.int .i64 weight, .int .i64 0, .chan none] 86)).alloc (.cells #[.pointer (some ⟨w.heap.size, 0, none⟩)] 83)).heap[w.heap.size]? = some (recObj ⟨w.heap.size, weight, 0, none⟩) := by
    rw [heap_al, if_neg (by simp), heap_al, if_pos (by simp)]; rfl
  obtain ⟨p1, p2, p3⟩ := (HR.alloc _).addRec w.heap.size weight hrb hfresh hown hgrow
  have T2 : Tch (PS gb tv rs ns) w (w3.setCell ⟨gb, 6, none⟩ tv') := (Tch.grown ((T1.alloc _).alloc _) hgrow (fun k hk => Or.inl (Or.inr (Or.inl hk)))).setCell (p := ⟨gb, 6, none⟩) (Or.inl (PS.gate _ _ _ _)) _
  have S2 : ∀ k, PS gb tv' (rs ++ [⟨w.heap.size, weight, 0, none⟩]) ns k → PS gb tv rs ns k ∨ w.heap.size ≤ k := fun k hk => PS.sub_add hmv (by simp; omega) (Nat.le_refl _) hk
  obtain ⟨ab, cp, rfl⟩ := ownsRow_form hown (by omega)
  have hix : rs.length < (rs ++ [(⟨w.heap.size, weight, 0, none⟩ : Rc)]).length := by simp
  have eix : (rs ++ [(⟨w.heap.size, weight, 0, none⟩ : Rc)])[rs.length]'hix = ⟨w.heap.size, weight, 0, none⟩ := by simp
  clear HR hown hgrow hmv hrb c0 f0 d6 HI CK T1
  have HNO : ¬ ((Tg.turn g.pass g.all : Int) = 0 ∧ Tg.held g.all + weight ≤ g.room) := fun x => hrel.turn_ne ok.ok hns (by have := x.1; omega)
  have htk := ticket_is g weight band wait _ _ _ 3 rfl rfl rfl (st_three HNO hw0)
  have has : Tg.asked g weight band wait = { g with all := g.all ++ [Tg.ticket g weight band wait] } := by
    unfold Tg.asked
    rw [Tg.Quiet.stays (Tg.Quiet.snoc hq (by rw [htk]; simp) (by rw [htk]; simp))]
  have HL5 : Hid ((rs.length : Int) = g.all.length) := hid (by rw [hrel.len])
  have HAS := hid has
  have HTK := hid htk
  have HFI := first_any p3
  obtain ⟨n0, nr, hnr⟩ : ∃ n0 nr, ns = n0 :: nr := by cases ns with
    | nil => exact absurd rfl hns
    | cons a b => exact ⟨a, b, rfl⟩
  rw [show pn ns.head? = .pointer (some ⟨n0.blk, 0, none⟩) from by rw [hnr]; rfl] at HFI
  clear hnr
  clear hns HNO htk has
  go_wp2_with (first | (go_at_call 39; refine HFI.mono ?_; rintro e w' ⟨rfl, rfl⟩) | fail)
  have HH := settle_any p3 rs.length hix 3
  rw [eix] at HH
  refine HH.mono ?_
  rintro e w5 ⟨rfl, hp5, ht5⟩
  clear HH HFI
  have er : (rs ++ [(⟨w.heap.size, weight, 0, none⟩ : Rc)]).set rs.length (settleR 3 ⟨w.heap.size, weight, 0, none⟩) = rs ++ [settleR 3 ⟨w.heap.size, weight, 0, none⟩] := by simp
  rw [er] at hp5
  have P5 : PH w5 gb (gnOf rd 1 (Tg.asked g weight band wait)) (.slice (some ⟨ab, 0, none⟩) (rs.length + 1) cp) (rs ++ [settleR 3 ⟨w.heap.size, weight, 0, none⟩]) ns := by
    have e : gnOf rd 1 (Tg.asked g weight band wait) = gnOf rd 1 g := by
      rw [HAS.out]; simp only [gnOf]; rw [Tg.held_append, HTK.out]; simp [Tg.held]
    rw [e]; exact hp5
  have REL5 : ∃ ixs, Rel (Tg.asked g weight band wait).all (rs ++ [settleR 3 ⟨w.heap.size, weight, 0, none⟩]) ns ixs := by
    refine ⟨ixs, ?_⟩
    rw [HAS.out]
    refine hrel.snoc _ _ ⟨?_, ?_, ?_⟩ ?_
    · rw [HTK.out]; rfl
    · rw [HTK.out]; rfl
    · rw [HTK.out]; exact fun _ => rfl
    · rw [HTK.out]; simp
  have hm5 : settleR 3 ⟨w.heap.size, weight, 0, none⟩ ∈ rs ++ [settleR 3 ⟨w.heap.size, weight, 0, none⟩] := by simp
  have eb5 : (settleR 3 ⟨w.heap.size, weight, 0, none⟩).blk = w.heap.size := rfl
  obtain ⟨st5, es5⟩ : ∃ st5, recState (settleR 3 ⟨w.heap.size, weight, 0, none⟩) = st5 := ⟨_, rfl⟩
  have HS5 : Hid (st5 = ((Tg.asked g weight band wait).all.getD g.all.length ⟨0, 0, 0, 0, 0⟩).state) := by
    refine hid ?_
    rw [← es5, HAS.out, HTK.out]
    simp [recState, isOpen, settleR]
  have T5 : Tch (PS gb tv rs ns) w w5 := T2.trans' ht5 fun k hk => S2 k hk
  have S5 : ∀ k, PS gb (.slice (some ⟨ab, 0, none⟩) (rs.length + 1) cp) (rs ++ [settleR 3 ⟨w.heap.size, weight, 0, none⟩]) ns k → PS gb tv rs ns k ∨ w.heap.size ≤ k := fun k hk => by
    rw [← er] at hk
    have hk2 : PS gb (.slice (some ⟨ab, 0, none⟩) (rs.length + 1) cp) ((rs ++ [(⟨w.heap.size, weight, 0, none⟩ : Rc)]).set rs.length (settleR 3 ((rs ++ [(⟨w.heap.size, weight, 0, none⟩ : Rc)])[rs.length]'hix))) ns k := by rw [eix]; exact hk
    exact S2 k (PS.sub_settle hix 3 hk2)
  have d0 := P5.gcell 0
  have df := P5.gfr 0
  have d6 := P5.gcell 6
  simp [gnOf] at d0 d6
  have SA : ∀ n, Calls Try.prog 45 #[.pointer (some ⟨w.heap.size, 0, none⟩)] (w5.drewN n) (fun e w'' => e = .returned (.int .i64 st5) ∧ w'' = w5.drewN n) := fun n => by
    have := state_any (P5.drewN n) hm5
    rw [eb5, es5] at this
    exact this
  have ES := hid es5
  clear es5 eb5
  go_wp2
  go_quiet ((go_at_call 45; exact Calls.quiet_of_same (SA _)))
  go_wp2
  refine leaves_cons (f := 36) (args := #[.pointer (some ⟨gb, 0, none⟩)]) (by simp) (by simp [go_sem]) ?_
  refine (unlock_deferred Try.muLib ⟨gb, 0, none⟩ .returning _ (by simpa using d0) (by simpa using df)).mono ?_
  rintro e u' w'' ⟨rfl, rfl, rfl⟩
  refine ⟨_, results_tmp3 rfl _ _ _, ?_, _, _, _, left_close P5 REL5 T5 S5 _⟩
  rw [← HS5.out, ← HL5.out]
  rfl

set_option maxRecDepth 20000 in
set_option maxHeartbeats 1000000 in
theorem ask_wait_nil (h : PG rd w gb g tv rs ns) (ok : Tg.GtOk g) (weight band wait : Int) (he : Tg.askErr weight band wait = 0) (wt : 1 ≤ weight ∧ weight ≤ 100) (hn : g.all.length + 1 ≤ 10000000000000) (hwt : -1 ≤ wait ∧ wait ≤ 1000000) (htm : g.time ≤ 4611686018427387904) (hns : ns = []) (hfit : g.room < Tg.held g.all + weight) (hw0 : (wait == 0) = false) :
    Calls Try.prog 21 #[.pointer (some ⟨gb, 0, none⟩), .int .i64 weight, .int .i64 band, .int .i64 wait] w fun e w' => e = .returned (.tuple #[.int .i64 ((g.all.length : Int) + 1), .int .i64 ((Tg.asked g weight band wait).all.getD g.all.length ⟨0, 0, 0, 0, 0⟩).state, .int .i64 0]) ∧
      ∃ tv' rs' ns', Left1 rd w gb tv rs ns w' (Tg.asked g weight band wait) tv' rs' ns' := by
  obtain ⟨ixs, hrel⟩ := h.rel
  have hn' : rs.length + 1 ≤ 10000000000000 := by rw [hrel.len]; exact hn
  have c0 := h.ph.gcell 0
  have f0 := h.ph.gfr 0
  have h1 := h.ph.lock
  have d6 := h1.gcell 6
  simp [gnOf] at c0 d6
  have hgl := lt_of_block h.ph.gate
  have CK := checkAsk_any weight band wait
  rw [he] at CK
  obtain ⟨i0, hi, hz0, hz1, hz2⟩ := info_parts Try.infoPRec
  have HI : Hid (Try.prog.info? 83 = some i0 ∧ i0.zero = some (.pointer none) ∧ i0.size = 1 ∧ i0.bytes = 8) := hid ⟨hi, hz0, hz1, hz2⟩
  clear hi hz0 hz1 hz2
  have HR : PH ((w.setCell ⟨gb, 0, none⟩ (.int .i32 1)).alloc (.cells #[.int .i64 weight, .int .i64 0, .chan none] 86)) gb (gnOf rd 1 g) tv rs ns := h1.alloc _
  have hfresh : ∀ r ∈ rs, r.blk ≠ w.heap.size := fun r hr => by have := lt_of_block (h.ph.recs r hr); omega
  have T1 : Tch (PS gb tv rs ns) w (w.setCell ⟨gb, 0, none⟩ (.int .i32 1)) := (Tch.refl _ _).setCell (p := ⟨gb, 0, none⟩) (Or.inl (PS.gate _ _ _ _)) _
  have hb := Tg.held_bounds _ _ ok.ok
  have hw1 := wt.1
  have hw2 := wt.2
  go_enter_defers Try.func21, Try.ntmps21
  go_wp2_with (first | (go_at_call 35; refine (lock_free Try.muLib ⟨gb, 0, none⟩ _ c0 f0).mono ?_; rintro e w' ⟨rfl, rfl⟩) | (go_at_call 38; refine (CK _).mono ?_; rintro e w' ⟨rfl, rfl⟩) | (at_builtin; refine wpList_append_own2 rfl (.tmp 34) (.tmp 36) 63 rfl 83 i0 (.pointer none) 1 8 Try.underlying63 HI.out.1 HI.out.2.1 HI.out.2.2.1 HI.out.2.2.2 rfl (by decide) tv rs.length (rs.map fun r => pr r.blk) rfl ?c1 ⟨w.heap.size + 1, 0, none⟩ 1 1 [pr w.heap.size] rfl rfl ?c2 ?c3 ?c4 ?c5 ?_) | fail)
  case c1 => exact (HR.alloc _).row
  case c2 =>
    intro j u hj
    rw [Addr.add_lit, World.cell?_alloc_at _ _ _ _ (by simp)]
    cases j with
    | zero => simpa [pr] using hj
    | succ j => simp at hj
  case c3 => intro u hu; simp [pr] at hu; subst hu; rfl
  case c4 => unfold maxLen; omega
  case c5 => omega
  intro tv' w3 hown hgrow hmv
  have hrb : (((w.setCell ⟨gb, 0, none⟩ (.int .i32 1)).alloc (.cells #[.int .i64 weight, .int .i64 0, .chan none] 86)).alloc (.cells #[.pointer (some ⟨w.heap.size, 0, none⟩)] 83)).heap[w.heap.size]? = some (recObj ⟨w.heap.size, weight, 0, none⟩) := by
    rw [heap_al, if_neg (by simp), heap_al, if_pos (by simp)]; rfl
  obtain ⟨p1, p2, p3⟩ := (HR.alloc _).addRec w.heap.size weight hrb hfresh hown hgrow
  have T2 : Tch (PS gb tv rs ns) w (w3.setCell ⟨gb, 6, none⟩ tv') := (Tch.grown ((T1.alloc _).alloc _) hgrow (fun k hk => Or.inl (Or.inr (Or.inl hk)))).setCell (p := ⟨gb, 6, none⟩) (Or.inl (PS.gate _ _ _ _)) _
  have S2 : ∀ k, PS gb tv' (rs ++ [⟨w.heap.size, weight, 0, none⟩]) ns k → PS gb tv rs ns k ∨ w.heap.size ≤ k := fun k hk => PS.sub_add hmv (by simp; omega) (Nat.le_refl _) hk
  obtain ⟨ab, cp, rfl⟩ := ownsRow_form hown (by omega)
  have hix : rs.length < (rs ++ [(⟨w.heap.size, weight, 0, none⟩ : Rc)]).length := by simp
  have eix : (rs ++ [(⟨w.heap.size, weight, 0, none⟩ : Rc)])[rs.length]'hix = ⟨w.heap.size, weight, 0, none⟩ := by simp
  clear HR hown hgrow hmv hrb c0 f0 d6 HI CK T1
  have HNO : ¬ ((Tg.turn g.pass g.all : Int) = 0 ∧ Tg.held g.all + weight ≤ g.room) := fun x => by have := x.2; omega
  have HPOS : Hid (wait ≠ -1 → 0 < wait) := hid (fun x => by have h0 : wait ≠ 0 := (by simpa using hw0); omega)
  have htk := ticket_is g weight band wait _ _ _ 1 rfl rfl rfl (st_one HNO hw0)
  have hok : Tg.GtOk { g with all := g.all ++ [Tg.ticket g weight band wait] } := ⟨ok.r1, ok.r2, ok.p1, ok.p2, ok.t1, ok.ok.snoc (Tg.ticket_ok g _ _ _ ok he)⟩
  have HL5 : Hid ((rs.length : Int) = g.all.length) := hid (by rw [hrel.len])
  have HTK := hid htk
  have t1 := ok.t1
  have HFI := first_any p3
  rw [hns] at HFI
  rw [show pn ([] : List Nd).head? = .pointer none from rfl] at HFI
  have HF : Hid (decide ((gnOf rd 1 g).held + weight ≤ (gnOf rd 1 g).room) = false) := hid (decide_eq_false (by show ¬ (Tg.held g.all + weight ≤ g.room); omega))
  have HFT := fits_is p3 weight hb.1 (by show Tg.held g.all ≤ _; omega) (by omega) (by omega) false HF.out
  clear hns HNO htk hfit
  go_wp2_with (first | (go_at_call 39; refine HFI.mono ?_; rintro e w' ⟨rfl, rfl⟩) | (go_at_call 40; refine HFT.mono ?_; rintro e w' ⟨rfl, nq, rfl⟩) | fail)
  have HH := enqueue_any (p3.drewN nq) rs.length hix band wait t1 htm hwt.1 hwt.2
  rw [eix] at HH
  refine HH.mono ?_
  rintro e w4 ⟨rfl, c4, nb4, hc4, hnb4, hp4, ht4⟩
  clear HH HFI
  have er : (rs ++ [(⟨w.heap.size, weight, 0, none⟩ : Rc)]).set rs.length ⟨w.heap.size, weight, 0, some (c4, false)⟩ = rs ++ [⟨w.heap.size, weight, 0, some (c4, false)⟩] := by simp
  have hp4' : PH w4 gb (gnOf rd 1 { g with all := g.all ++ [Tg.ticket g weight band wait] }) (.slice (some ⟨ab, 0, none⟩) (rs.length + 1) cp) (rs ++ [⟨w.heap.size, weight, 0, some (c4, false)⟩]) (ns ++ [⟨nb4, (rs.length : Int) + 1, w.heap.size, band, 0, if wait = -1 then -1 else g.time + wait⟩]) := by
    have e : gnOf rd 1 { g with all := g.all ++ [Tg.ticket g weight band wait] } = gnOf rd 1 g := by
      simp only [gnOf]; rw [Tg.held_append, HTK.out]; simp [Tg.held]
    rw [e, ← er]; exact hp4
  have hrel4 : Rel (g.all ++ [Tg.ticket g weight band wait]) (rs ++ [⟨w.heap.size, weight, 0, some (c4, false)⟩]) (ns ++ [⟨nb4, (rs.length : Int) + 1, w.heap.size, band, 0, if wait = -1 then -1 else g.time + wait⟩]) (ixs ++ [g.all.length]) := by
    refine hrel.snoc_wait _ _ _ ⟨?_, ?_, ?_⟩ ?_ ⟨by show (rs.length : Int) + 1 = _; rw [HL5.out], ?_, ?_, ?_, ?_⟩
    · rw [HTK.out]
    · rw [HTK.out]; rfl
    · rw [HTK.out]; exact fun x => absurd rfl x
    · rw [HTK.out]
    · rfl
    · rw [HTK.out]
    · rw [HTK.out]
    · rw [HTK.out]
      simp only [tillOf]
      by_cases x : wait = -1
      · rw [if_pos x, if_neg (by omega)]
      · rw [if_neg x, if_pos (HPOS.out x)]
  have S4 : ∀ k, PS gb (.slice (some ⟨ab, 0, none⟩) (rs.length + 1) cp) (rs ++ [⟨w.heap.size, weight, 0, some (c4, false)⟩]) (ns ++ [⟨nb4, (rs.length : Int) + 1, w.heap.size, band, 0, if wait = -1 then -1 else g.time + wait⟩]) k → PS gb tv rs ns k ∨ w.heap.size ≤ k := by
    intro k hk
    have hsz : w.heap.size ≤ ((w3.setCell ⟨gb, 6, none⟩ (.slice (some ⟨ab, 0, none⟩) (rs.length + 1) cp)).drewN nq).heap.size := T2.size
    rcases hk with x | x | ⟨r, hr', x⟩ | ⟨r, hr', c, s, hc, x⟩ | ⟨n, hn', x⟩
    · exact Or.inl (Or.inl x)
    · exact S2 k (Or.inr (Or.inl x))
    · rcases List.mem_append.1 hr' with y | y
      · exact Or.inl (Or.inr (Or.inr (Or.inl ⟨r, y, x⟩)))
      · simp at y; subst y; subst x; exact Or.inr (Nat.le_refl _)
    · rcases List.mem_append.1 hr' with y | y
      · exact Or.inl (Or.inr (Or.inr (Or.inr (Or.inl ⟨r, y, c, s, hc, x⟩))))
      · simp at y; subst y; simp at hc; exact Or.inr (by omega)
    · rcases List.mem_append.1 hn' with y | y
      · exact Or.inl (Or.inr (Or.inr (Or.inr (Or.inr ⟨n, y, x⟩))))
      · simp at y; subst y; subst x; exact Or.inr (Nat.le_trans hsz hnb4)
  have T4 : Tch (PS gb tv rs ns) w w4 := (T2.drewN nq).trans' ht4 fun k hk => S2 k hk
  clear hp4 ht4 hc4 hnb4
  have HLI := letIn_any hp4' hrel4 hok (by simp; omega)
  go_wp2_with fail
  refine HLI.mono ?_
  rintro e w5 ⟨rfl, rs5, ns5, ixs5, L5⟩
  clear HLI
  have hl5 : rs5.length = rs.length + 1 := by have := congrArg List.length L5.blks; simpa using this
  have hi5 : rs.length < rs5.length := by omega
  have P5 : PH w5 gb (gnOf rd 1 (Tg.asked g weight band wait)) (.slice (some ⟨ab, 0, none⟩) (rs.length + 1) cp) rs5 ns5 := L5.ph
  have REL5 : ∃ ixs, Rel (Tg.asked g weight band wait).all rs5 ns5 ixs := ⟨ixs5, L5.rel⟩
  have hm5 : rs5[rs.length] ∈ rs5 := List.getElem_mem hi5
  have eb5 : rs5[rs.length].blk = w.heap.size := by rw [L5.blk_at rs.length hi5 (by simp)]; simp
  obtain ⟨st5, es5⟩ : ∃ st5, recState rs5[rs.length] = st5 := ⟨_, rfl⟩
  have HS5 : Hid (st5 = ((Tg.asked g weight band wait).all.getD g.all.length ⟨0, 0, 0, 0, 0⟩).state) := by
    refine hid ?_
    have hg5 : rs.length < (Tg.asked g weight band wait).all.length := by have := L5.rel.len; show rs.length < (Tg.letIn _ _ _).length; omega
    rw [← es5, (Rel.recAt (g := Tg.asked g weight band wait) L5.rel rs.length hi5 hg5).state]
    have e2 : g.all.length = rs.length := hrel.len.symm
    rw [e2]; simp [hg5]
  have T5 : Tch (PS gb tv rs ns) w w5 := T4.trans' L5.tch S4
  have S5 : ∀ k, PS gb (.slice (some ⟨ab, 0, none⟩) (rs.length + 1) cp) rs5 ns5 k → PS gb tv rs ns k ∨ w.heap.size ≤ k := fun k hk => S4 k (L5.sub k hk)
  clear L5 hp4' hrel4
  have d0 := P5.gcell 0
  have df := P5.gfr 0
  have d6 := P5.gcell 6
  simp [gnOf] at d0 d6
  have SA : ∀ n, Calls Try.prog 45 #[.pointer (some ⟨w.heap.size, 0, none⟩)] (w5.drewN n) (fun e w'' => e = .returned (.int .i64 st5) ∧ w'' = w5.drewN n) := fun n => by
    have := state_any (P5.drewN n) hm5
    rw [eb5, es5] at this
    exact this
  have ES := hid es5
  clear es5 eb5
  go_wp2
  go_quiet ((go_at_call 45; exact Calls.quiet_of_same (SA _)))
  go_wp2
  refine leaves_cons (f := 36) (args := #[.pointer (some ⟨gb, 0, none⟩)]) (by simp) (by simp [go_sem]) ?_
  refine (unlock_deferred Try.muLib ⟨gb, 0, none⟩ .returning _ (by simpa using d0) (by simpa using df)).mono ?_
  rintro e u' w'' ⟨rfl, rfl, rfl⟩
  refine ⟨_, results_tmp3 rfl _ _ _, ?_, _, _, _, left_close P5 REL5 T5 S5 _⟩
  rw [← HS5.out, ← HL5.out]
  rfl

set_option maxRecDepth 20000 in
set_option maxHeartbeats 1000000 in
theorem ask_wait_some (h : PG rd w gb g tv rs ns) (ok : Tg.GtOk g) (weight band wait : Int) (he : Tg.askErr weight band wait = 0) (wt : 1 ≤ weight ∧ weight ≤ 100) (hn : g.all.length + 1 ≤ 10000000000000) (hwt : -1 ≤ wait ∧ wait ≤ 1000000) (htm : g.time ≤ 4611686018427387904) (hns : ns ≠ []) (hw0 : (wait == 0) = false) :
    Calls Try.prog 21 #[.pointer (some ⟨gb, 0, none⟩), .int .i64 weight, .int .i64 band, .int .i64 wait] w fun e w' => e = .returned (.tuple #[.int .i64 ((g.all.length : Int) + 1), .int .i64 ((Tg.asked g weight band wait).all.getD g.all.length ⟨0, 0, 0, 0, 0⟩).state, .int .i64 0]) ∧
      ∃ tv' rs' ns', Left1 rd w gb tv rs ns w' (Tg.asked g weight band wait) tv' rs' ns' := by
  obtain ⟨ixs, hrel⟩ := h.rel
  have hn' : rs.length + 1 ≤ 10000000000000 := by rw [hrel.len]; exact hn
  have c0 := h.ph.gcell 0
  have f0 := h.ph.gfr 0
  have h1 := h.ph.lock
  have d6 := h1.gcell 6
  simp [gnOf] at c0 d6
  have hgl := lt_of_block h.ph.gate
  have CK := checkAsk_any weight band wait
  rw [he] at CK
  obtain ⟨i0, hi, hz0, hz1, hz2⟩ := info_parts Try.infoPRec
  have HI : Hid (Try.prog.info? 83 = some i0 ∧ i0.zero = some (.pointer none) ∧ i0.size = 1 ∧ i0.bytes = 8) := hid ⟨hi, hz0, hz1, hz2⟩
  clear hi hz0 hz1 hz2
  have HR : PH ((w.setCell ⟨gb, 0, none⟩ (.int .i32 1)).alloc (.cells #[.int .i64 weight, .int .i64 0, .chan none] 86)) gb (gnOf rd 1 g) tv rs ns := h1.alloc _
  have hfresh : ∀ r ∈ rs, r.blk ≠ w.heap.size := fun r hr => by have := lt_of_block (h.ph.recs r hr); omega
  have T1 : Tch (PS gb tv rs ns) w (w.setCell ⟨gb, 0, none⟩ (.int .i32 1)) := (Tch.refl _ _).setCell (p := ⟨gb, 0, none⟩) (Or.inl (PS.gate _ _ _ _)) _
  have hb := Tg.held_bounds _ _ ok.ok
  have hw1 := wt.1
  have hw2 := wt.2
  go_enter_defers Try.func21, Try.ntmps21
  go_wp2_with (first | (go_at_call 35; refine (lock_free Try.muLib ⟨gb, 0, none⟩ _ c0 f0).mono ?_; rintro e w' ⟨rfl, rfl⟩) | (go_at_call 38; refine (CK _).mono ?_; rintro e w' ⟨rfl, rfl⟩) | (at_builtin; refine wpList_append_own2 rfl (.tmp 34) (.tmp 36) 63 rfl 83 i0 (.pointer none) 1 8 Try.underlying63 HI.out.1 HI.out.2.1 HI.out.2.2.1 HI.out.2.2.2 rfl (by decide) tv rs.length (rs.map fun r => pr r.blk) rfl ?c1 ⟨w.heap.size + 1, 0, none⟩ 1 1 [pr w.heap.size] rfl rfl ?c2 ?c3 ?c4 ?c5 ?_) | fail)
  case c1 => exact (HR.alloc _).row
  case c2 =>
    intro j u hj
    rw [Addr.add_lit, World.cell?_alloc_at _ _ _ _ (by simp)]
    cases j with
    | zero => simpa [pr] using hj
    | succ j => simp at hj
  case c3 => intro u hu; simp [pr] at hu; subst hu; rfl
  case c4 => unfold maxLen; omega
  case c5 => omega
  intro tv' w3 hown hgrow hmv
  have hrb : (((w.setCell ⟨gb, 0, none⟩ (.int .i32 1)).alloc (.cells #[.int .i64 weight, .int .i64 0, .chan none] 86)).alloc (.cells #[.pointer (some ⟨w.heap.size, 0, none⟩)] 83)).heap[w.heap.size]? = some (recObj ⟨w.heap.size, weight, 0, none⟩) := by
    rw [heap_al, if_neg (by simp), heap_al, if_pos (by simp)]; rfl
  obtain ⟨p1, p2, p3⟩ := (HR.alloc _).addRec w.heap.size weight hrb hfresh hown hgrow
  have T2 : Tch (PS gb tv rs ns) w (w3.setCell ⟨gb, 6, none⟩ tv') := (Tch.grown ((T1.alloc _).alloc _) hgrow (fun k hk => Or.inl (Or.inr (Or.inl hk)))).setCell (p := ⟨gb, 6, none⟩) (Or.inl (PS.gate _ _ _ _)) _
  have S2 : ∀ k, PS gb tv' (rs ++ [⟨w.heap.size, weight, 0, none⟩]) ns k → PS gb tv rs ns k ∨ w.heap.size ≤ k := fun k hk => PS.sub_add hmv (by simp; omega) (Nat.le_refl _) hk
  obtain ⟨ab, cp, rfl⟩ := ownsRow_form hown (by omega)
  have hix : rs.length < (rs ++ [(⟨w.heap.size, weight, 0, none⟩ : Rc)]).length := by simp
  have eix : (rs ++ [(⟨w.heap.size, weight, 0, none⟩ : Rc)])[rs.length]'hix = ⟨w.heap.size, weight, 0, none⟩ := by simp
  clear HR hown hgrow hmv hrb c0 f0 d6 HI CK T1
  have HNO : ¬ ((Tg.turn g.pass g.all : Int) = 0 ∧ Tg.held g.all + weight ≤ g.room) := fun x => hrel.turn_ne ok.ok hns (by have := x.1; omega)
  have HPOS : Hid (wait ≠ -1 → 0 < wait) := hid (fun x => by have h0 : wait ≠ 0 := (by simpa using hw0); omega)
  have htk := ticket_is g weight band wait _ _ _ 1 rfl rfl rfl (st_one HNO hw0)
  have hok : Tg.GtOk { g with all := g.all ++ [Tg.ticket g weight band wait] } := ⟨ok.r1, ok.r2, ok.p1, ok.p2, ok.t1, ok.ok.snoc (Tg.ticket_ok g _ _ _ ok he)⟩
  have HL5 : Hid ((rs.length : Int) = g.all.length) := hid (by rw [hrel.len])
  have HTK := hid htk
  have t1 := ok.t1
  have HFI := first_any p3
  obtain ⟨n0, nr, hnr⟩ : ∃ n0 nr, ns = n0 :: nr := by cases ns with
    | nil => exact absurd rfl hns
    | cons a b => exact ⟨a, b, rfl⟩
  rw [show pn ns.head? = .pointer (some ⟨n0.blk, 0, none⟩) from by rw [hnr]; rfl] at HFI
  clear hnr
  clear hns HNO htk
  go_wp2_with (first | (go_at_call 39; refine HFI.mono ?_; rintro e w' ⟨rfl, rfl⟩) | fail)
  have HH := enqueue_any p3 rs.length hix band wait t1 htm hwt.1 hwt.2
  rw [eix] at HH
  refine HH.mono ?_
  rintro e w4 ⟨rfl, c4, nb4, hc4, hnb4, hp4, ht4⟩
  clear HH HFI
  have er : (rs ++ [(⟨w.heap.size, weight, 0, none⟩ : Rc)]).set rs.length ⟨w.heap.size, weight, 0, some (c4, false)⟩ = rs ++ [⟨w.heap.size, weight, 0, some (c4, false)⟩] := by simp
  have hp4' : PH w4 gb (gnOf rd 1 { g with all := g.all ++ [Tg.ticket g weight band wait] }) (.slice (some ⟨ab, 0, none⟩) (rs.length + 1) cp) (rs ++ [⟨w.heap.size, weight, 0, some (c4, false)⟩]) (ns ++ [⟨nb4, (rs.length : Int) + 1, w.heap.size, band, 0, if wait = -1 then -1 else g.time + wait⟩]) := by
    have e : gnOf rd 1 { g with all := g.all ++ [Tg.ticket g weight band wait] } = gnOf rd 1 g := by
      simp only [gnOf]; rw [Tg.held_append, HTK.out]; simp [Tg.held]
    rw [e, ← er]; exact hp4
  have hrel4 : Rel (g.all ++ [Tg.ticket g weight band wait]) (rs ++ [⟨w.heap.size, weight, 0, some (c4, false)⟩]) (ns ++ [⟨nb4, (rs.length : Int) + 1, w.heap.size, band, 0, if wait = -1 then -1 else g.time + wait⟩]) (ixs ++ [g.all.length]) := by
    refine hrel.snoc_wait _ _ _ ⟨?_, ?_, ?_⟩ ?_ ⟨by show (rs.length : Int) + 1 = _; rw [HL5.out], ?_, ?_, ?_, ?_⟩
    · rw [HTK.out]
    · rw [HTK.out]; rfl
    · rw [HTK.out]; exact fun x => absurd rfl x
    · rw [HTK.out]
    · rfl
    · rw [HTK.out]
    · rw [HTK.out]
    · rw [HTK.out]
      simp only [tillOf]
      by_cases x : wait = -1
      · rw [if_pos x, if_neg (by omega)]
      · rw [if_neg x, if_pos (HPOS.out x)]
  have S4 : ∀ k, PS gb (.slice (some ⟨ab, 0, none⟩) (rs.length + 1) cp) (rs ++ [⟨w.heap.size, weight, 0, some (c4, false)⟩]) (ns ++ [⟨nb4, (rs.length : Int) + 1, w.heap.size, band, 0, if wait = -1 then -1 else g.time + wait⟩]) k → PS gb tv rs ns k ∨ w.heap.size ≤ k := by
    intro k hk
    have hsz : w.heap.size ≤ ((w3.setCell ⟨gb, 6, none⟩ (.slice (some ⟨ab, 0, none⟩) (rs.length + 1) cp))).heap.size := T2.size
    rcases hk with x | x | ⟨r, hr', x⟩ | ⟨r, hr', c, s, hc, x⟩ | ⟨n, hn', x⟩
    · exact Or.inl (Or.inl x)
    · exact S2 k (Or.inr (Or.inl x))
    · rcases List.mem_append.1 hr' with y | y
      · exact Or.inl (Or.inr (Or.inr (Or.inl ⟨r, y, x⟩)))
      · simp at y; subst y; subst x; exact Or.inr (Nat.le_refl _)
    · rcases List.mem_append.1 hr' with y | y
      · exact Or.inl (Or.inr (Or.inr (Or.inr (Or.inl ⟨r, y, c, s, hc, x⟩))))
      · simp at y; subst y; simp at hc; exact Or.inr (by omega)
    · rcases List.mem_append.1 hn' with y | y
      · exact Or.inl (Or.inr (Or.inr (Or.inr (Or.inr ⟨n, y, x⟩))))
      · simp at y; subst y; subst x; exact Or.inr (Nat.le_trans hsz hnb4)
  have T4 : Tch (PS gb tv rs ns) w w4 := T2.trans' ht4 fun k hk => S2 k hk
  clear hp4 ht4 hc4 hnb4
  have HLI := letIn_any hp4' hrel4 hok (by simp; omega)
  go_wp2_with fail
  refine HLI.mono ?_
  rintro e w5 ⟨rfl, rs5, ns5, ixs5, L5⟩
  clear HLI
  have hl5 : rs5.length = rs.length + 1 := by have := congrArg List.length L5.blks; simpa using this
  have hi5 : rs.length < rs5.length := by omega
  have P5 : PH w5 gb (gnOf rd 1 (Tg.asked g weight band wait)) (.slice (some ⟨ab, 0, none⟩) (rs.length + 1) cp) rs5 ns5 := L5.ph
  have REL5 : ∃ ixs, Rel (Tg.asked g weight band wait).all rs5 ns5 ixs := ⟨ixs5, L5.rel⟩
  have hm5 : rs5[rs.length] ∈ rs5 := List.getElem_mem hi5
  have eb5 : rs5[rs.length].blk = w.heap.size := by rw [L5.blk_at rs.length hi5 (by simp)]; simp
  obtain ⟨st5, es5⟩ : ∃ st5, recState rs5[rs.length] = st5 := ⟨_, rfl⟩
  have HS5 : Hid (st5 = ((Tg.asked g weight band wait).all.getD g.all.length ⟨0, 0, 0, 0, 0⟩).state) := by
    refine hid ?_
    have hg5 : rs.length < (Tg.asked g weight band wait).all.length := by have := L5.rel.len; show rs.length < (Tg.letIn _ _ _).length; omega
    rw [← es5, (Rel.recAt (g := Tg.asked g weight band wait) L5.rel rs.length hi5 hg5).state]
    have e2 : g.all.length = rs.length := hrel.len.symm
    rw [e2]; simp [hg5]
  have T5 : Tch (PS gb tv rs ns) w w5 := T4.trans' L5.tch S4
  have S5 : ∀ k, PS gb (.slice (some ⟨ab, 0, none⟩) (rs.length + 1) cp) rs5 ns5 k → PS gb tv rs ns k ∨ w.heap.size ≤ k := fun k hk => S4 k (L5.sub k hk)
  clear L5 hp4' hrel4
  have d0 := P5.gcell 0
  have df := P5.gfr 0
  have d6 := P5.gcell 6
  simp [gnOf] at d0 d6
  have SA : ∀ n, Calls Try.prog 45 #[.pointer (some ⟨w.heap.size, 0, none⟩)] (w5.drewN n) (fun e w'' => e = .returned (.int .i64 st5) ∧ w'' = w5.drewN n) := fun n => by
    have := state_any (P5.drewN n) hm5
    rw [eb5, es5] at this
    exact this
  have ES := hid es5
  clear es5 eb5
  go_wp2
  go_quiet ((go_at_call 45; exact Calls.quiet_of_same (SA _)))
  go_wp2
  refine leaves_cons (f := 36) (args := #[.pointer (some ⟨gb, 0, none⟩)]) (by simp) (by simp [go_sem]) ?_
  refine (unlock_deferred Try.muLib ⟨gb, 0, none⟩ .returning _ (by simpa using d0) (by simpa using df)).mono ?_
  rintro e u' w'' ⟨rfl, rfl, rfl⟩
  refine ⟨_, results_tmp3 rfl _ _ _, ?_, _, _, _, left_close P5 REL5 T5 S5 _⟩
  rw [← HS5.out, ← HL5.out]
  rfl

theorem ask_call (h : PG rd w gb g tv rs ns) (ok : Tg.GtOk g) (hq : Tg.Quiet g.room g.pass g.all) (weight band wait : Int) (hn : g.all.length + 1 ≤ 10000000000000) (htm : g.time ≤ 4611686018427387904) :
    Calls Try.prog 21 #[.pointer (some ⟨gb, 0, none⟩), .int .i64 weight, .int .i64 band, .int .i64 wait] w fun e w' =>
      e = .returned (.tuple #[.int .i64 (Tg.ask g weight band wait).2.1, .int .i64 (Tg.ask g weight band wait).2.2.1, .int .i64 (Tg.ask g weight band wait).2.2.2]) ∧
      ∃ tv' rs' ns', Left1 rd w gb tv rs ns w' (Tg.ask g weight band wait).1 tv' rs' ns' := by
  by_cases he : Tg.askErr weight band wait = 0
  · have ha : Tg.ask g weight band wait = (Tg.asked g weight band wait, (g.all.length : Int) + 1, ((Tg.asked g weight band wait).all.getD g.all.length ⟨0, 0, 0, 0, 0⟩).state, 0) := by unfold Tg.ask; rw [if_pos he]
    rw [ha]
    have tk := Tg.ticket_ok g weight band wait ok he
    have wt : 1 ≤ weight ∧ weight ≤ 100 := ⟨tk.w1, tk.w2⟩
    have bd : 0 ≤ band ∧ band ≤ 2 := ⟨tk.b1, tk.b2⟩
    have hwt : -1 ≤ wait ∧ wait ≤ 1000000 := by
      by_cases x : wait ≠ -1 ∧ ¬ (0 ≤ wait ∧ wait ≤ 1000000)
      · have := askErr_5 wt bd x; omega
      · omega
    by_cases hns : ns = []
    · by_cases hfit : Tg.held g.all + weight ≤ g.room
      · exact ask_hold h ok weight band wait he wt hn hns hfit
      · cases hw0 : (wait == 0) with
        | true => exact ask_refuse_nil h ok weight band wait he wt hn hq hns (by omega) hw0
        | false => exact ask_wait_nil h ok weight band wait he wt hn hwt htm hns (by omega) hw0
    · cases hw0 : (wait == 0) with
      | true => exact ask_refuse_some h ok weight band wait he wt hn hq hns hw0
      | false => exact ask_wait_some h ok weight band wait he wt hn hwt htm hns hw0
  · have ha : Tg.ask g weight band wait = (g, 0, 0, Tg.askErr weight band wait) := by unfold Tg.ask; rw [if_neg he]
    rw [ha]
    refine (ask_err h weight band wait he).mono ?_
    rintro e w' ⟨rfl, hp, ht⟩
    exact ⟨rfl, tv, rs, ns, hp, ht, fun k hk => Or.inl hk⟩
end
end Go.Proofs.Ytekjgjhhjlcoaaa
