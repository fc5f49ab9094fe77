import Derived.Test.YtekjgjhhjlcoaaaPrgJ
namespace Go.Proofs.Ytekjgjhhjlcoaaa
open Go.RowKit Go.Conc

def gnOf (rd : Option Int) (mu : Int) (g : Tg.Gt) : Gn := ⟨rd, mu, g.room, g.pass, g.time, Tg.held g.all⟩

theorem PS.sub_nodes {gb : Nat} {tv : Value} {rs : List Rc} {ns ns2 : List Nd} (h : ∀ n ∈ ns2, ∃ n' ∈ ns, n.blk = n'.blk) {k : Nat} (hk : PS gb tv rs ns2 k) : PS gb tv rs ns k := by
  rcases hk with x | x | x | x | ⟨n, hn, x⟩
  · exact Or.inl x
  · exact Or.inr (Or.inl x)
  · exact Or.inr (Or.inr (Or.inl x))
  · exact Or.inr (Or.inr (Or.inr (Or.inl x)))
  · obtain ⟨n', hn', e⟩ := h n hn
    exact Or.inr (Or.inr (Or.inr (Or.inr ⟨n', hn', by rw [x, e]⟩)))

theorem PS.sub_settle {gb : Nat} {tv : Value} {rs : List Rc} {ns : List Nd} {i : Nat} (hi : i < rs.length) (s : Int) {k : Nat} (hk : PS gb tv (rs.set i (settleR s rs[i])) ns k) : PS gb tv rs ns k := by
  rcases PS.mono_rec hi (by rfl) hk with x | ⟨c, s', hc, x⟩
  · exact x
  · simp only [settleR] at hc
    obtain ⟨⟨c0, s0⟩, h0, e⟩ := Option.map_eq_some_iff.1 hc
    simp at e
    obtain ⟨rfl, rfl⟩ := e
    subst x
    exact PS.chan gb tv rs ns i hi _ s0 h0

theorem bump_sub (m : Nat) (ns : List Nd) : ∀ n ∈ bumpN m ns, ∃ n' ∈ ns, n.blk = n'.blk := by
  intro n hn
  obtain ⟨j, hj, rfl⟩ := List.getElem_of_mem hn
  have hj' : j < ns.length := by rwa [bumpN_length] at hj
  refine ⟨ns[j], List.getElem_mem hj', ?_⟩
  rw [bumpN_at _ _ _ hj']
  split <;> rfl
theorem erase_sub (m : Nat) (ns : List Nd) : ∀ n ∈ ns.eraseIdx m, ∃ n' ∈ ns, n.blk = n'.blk := fun n hn => ⟨n, List.mem_of_mem_eraseIdx hn, rfl⟩

/-- The gate as it is while it lets in. -/
structure LIR (rd : Option Int) (w : World) (gb : Nat) (mu : Int) (g : Tg.Gt) (tv : Value) (rs : List Rc) (ns : List Nd) (wr : World) (l : List Tg.Tk) (rs' : List Rc) (ns' : List Nd) (ixs' : List Nat) : Prop where
  ph : PH wr gb (gnOf rd mu { g with all := l }) tv rs' ns'
  rel : Rel l rs' ns' ixs'
  ok : Tg.TksOk g.pass l
  len : l.length = g.all.length
  same : Hid (Tg.letIn g.room g.pass l = Tg.letIn g.room g.pass g.all)
  blks : rs'.map (·.blk) = rs.map (·.blk)
  tch : Tch (PS gb tv rs ns) w wr
  sub : ∀ k, PS gb tv rs' ns' k → PS gb tv rs ns k

section
variable {rd : Option Int} {w wr w2 : World} {gb : Nat} {mu : Int} {g : Tg.Gt} {tv : Value} {rs rs' : List Rc} {ns ns' : List Nd} {l : List Tg.Tk} {ixs' : List Nat}

theorem LIR.drewN (R : LIR rd w gb mu g tv rs ns wr l rs' ns' ixs') (n : Nat) : LIR rd w gb mu g tv rs ns (wr.drewN n) l rs' ns' ixs' :=
  ⟨R.ph.drewN n, R.rel, R.ok, R.len, R.same, R.blks, R.tch.drewN n, R.sub⟩

/-- What one round of the letting in leaves. -/
theorem LIR.step (R : LIR rd w gb mu g tv rs ns wr l rs' ns' ixs') (hp : g.pass ≤ 20) {m i : Nat} (hm : ixs'[m]? = some i) (hi : i < rs'.length) (hil : i < l.length) (ht : Tg.turn g.pass l = i + 1) (hs : l[i].state = 1) (hw : rs'[i].weight = l[i].weight)
    (hf : Tg.held l + l[i].weight ≤ g.room)
    (h2 : PH w2 gb { gnOf rd mu { g with all := l } with held := (gnOf rd mu { g with all := l }).held + rs'[i].weight } tv (rs'.set i (settleR 2 rs'[i])) ((bumpN m ns').eraseIdx m)) (hc : Tch (PS gb tv rs ns) w w2) :
    LIR rd w gb mu g tv rs ns w2 (Tg.enter i l) (rs'.set i (settleR 2 rs'[i])) ((bumpN m ns').eraseIdx m) (ixs'.eraseIdx m) := by
  refine ⟨?_, R.rel.enter hm hi, R.ok.enter hp i ht, by rw [Tg.enter_length]; exact R.len, by rw [← Tg.letIn_go _ _ _ i hil ht hf]; exact R.same, ?_, hc, fun k hk => ?_⟩
  · have e : gnOf rd mu { g with all := Tg.enter i l } = { gnOf rd mu { g with all := l } with held := (gnOf rd mu { g with all := l }).held + rs'[i].weight } := by
      simp only [gnOf]
      rw [Tg.held_enter l i hil hs, hw]
    rw [e]; exact h2
  · rw [← R.blks]
    apply List.ext_getElem
    · simp
    · intro j h1 h2
      simp only [List.getElem_map, List.getElem_set]
      split
      · rename_i e; subst e; rfl
      · rfl
  · exact R.sub k (PS.sub_nodes (bump_sub m ns') (PS.sub_nodes (erase_sub m _) (PS.sub_settle hi 2 hk)))

theorem LIR.blk_at (R : LIR rd w gb mu g tv rs ns wr l rs' ns' ixs') (i : Nat) (hi : i < rs'.length) (hi2 : i < rs.length) : rs'[i].blk = rs[i].blk := by
  have := R.blks
  have h1 : (rs'.map (·.blk))[i]? = (rs.map (·.blk))[i]? := by rw [this]
  simpa [hi, hi2] using h1

set_option maxRecDepth 20000 in
set_option maxHeartbeats 2000000 in
theorem letIn_any {ixs : List Nat} (h : PH w gb (gnOf rd mu g) tv rs ns) (hr : Rel g.all rs ns ixs) (ok : Tg.GtOk g) (hn : g.all.length ≤ 10000000000000) :
    Calls Try.prog 44 #[.pointer (some ⟨gb, 0, none⟩)] w fun e w' => e = .returned (.tuple #[]) ∧ ∃ rs' ns' ixs', LIR rd w gb mu g tv rs ns w' (Tg.letIn g.room g.pass g.all) rs' ns' ixs' := by
  have R0 : LIR rd w gb mu g tv rs ns w g.all rs ns ixs := ⟨h, hr, ok.ok, rfl, hid rfl, rfl, Tch.refl _ _, fun _ hk => hk⟩
  go_enter Try.func44, Try.ntmps44
  go_wp2_with (go_at_call 79; refine (turn_any h (hr.bands ok.ok)).mono ?_; rintro e w' ⟨m0, hm0, rfl, n0, rfl⟩)
  go_loopg [2] (Tg.waitN g.all) (fun r p wr => ∃ l rs' ns' ixs' m, Tg.waitN l = r ∧ p = bestPtr ns' m ∧ IsTurn g.pass ns' m ∧ LIR rd w gb mu g tv rs ns wr l rs' ns' ixs')
  case atStart => exact ⟨g.all, rs, ns, ixs, m0, rfl, rfl, hm0, R0.drewN n0⟩
  case round =>
    obtain ⟨l, rs', ns', ixs', m, rfl, rfl, HT, R⟩ := hrel
    clear R0 h hr hm0
    cases m with
    | none =>
      rw [show bestPtr ns' none = .pointer none from rfl]
      go_wp2
      go_end0
      have e : Tg.letIn g.room g.pass l = l := Tg.letIn_stop _ _ _ (R.rel.turn_none g.pass HT)
      refine ⟨rfl, rs', ns', ixs', ?_⟩
      have := R.same.out
      rw [← this, e]
      exact R
    | some m =>
      obtain ⟨i, t, hm, hat, hst, htn⟩ := R.rel.turn_some R.ok HT
      have hml := HT.lt
      obtain ⟨nd, rc, t', hnd, hrc, hat', no⟩ := R.rel.node m i hm
      rw [hat] at hat'; simp at hat'; subst hat'
      obtain ⟨hil, hte⟩ := List.getElem?_eq_some_iff.1 hat
      obtain ⟨hir, hre⟩ := List.getElem?_eq_some_iff.1 hrc
      have hne : ns'[m] = nd := by rw [List.getElem?_eq_getElem hml] at hnd; simpa using hnd
      obtain ⟨rc', hrc', ro⟩ := R.rel.rcs i t hat
      rw [hrc] at hrc'; simp at hrc'; subst hrc'
      have ew : rs'[i].weight = l[i].weight := by rw [hre, hte]; exact ro.weight
      have tk := R.ok _ (List.getElem_mem hil)
      have k1 := tk.w1
      have k2 := tk.w2
      have hb := Tg.held_bounds _ _ R.ok
      have hlen := R.len
      rw [show bestPtr ns' (some m) = .pointer (some ⟨ns'[m].blk, 0, none⟩) from pn_at ns' m hml]
      have n0c := R.ph.ncell m hml 1
      simp at n0c
      have ercd : pr ns'[m].rcd = .pointer (some ⟨rs'[i].blk, 0, none⟩) := by rw [hne, no.rcd, ← hre]; rfl
      rw [ercd] at n0c
      have r0c := R.ph.rcell (List.getElem_mem hir) 0
      simp at r0c
      have hmb : m < (bumpN m ns').length := by rw [bumpN_length]; exact hml
      have eb : (bumpN m ns')[m]'hmb = ns'[m] := by rw [bumpN_at _ _ _ hml, if_neg (by omega)]
      have hcnt : ∀ j, j < ns'.length → ∀ hj : j < ns'.length, 0 ≤ ns'[j].count ∧ ns'[j].count ≤ 1000 := by
        intro j _ hj
        have hji : j < ixs'.length := by rw [R.rel.nlen]; exact hj
        obtain ⟨n2, r2, t2, hn2, _, ht2, no2⟩ := R.rel.node j _ (List.getElem?_eq_getElem hji)
        obtain ⟨_, e2⟩ := List.getElem?_eq_some_iff.1 hn2
        rw [e2, no2.count]
        obtain ⟨hx, e3⟩ := List.getElem?_eq_some_iff.1 ht2
        have := R.ok _ (List.getElem_mem hx)
        rw [e3] at this
        exact ⟨this.c1, by have := this.c2; omega⟩
      have HM := hid hm
      have HTN := hid htn
      have HST : Hid (l[i].state = 1) := hid (by rw [hte]; exact hst)
      have HEW := hid ew
      have HEB := hid eb
      have HER := hid ercd
      rw [← ew] at k1 k2
      clear hm hat hst htn hnd hrc no hte hre hne ro ew ercd eb tk
      by_cases hf : Tg.held l + rs'[i].weight ≤ g.room
      · have HC : Hid (decide ((gnOf rd mu { g with all := l }).held + rs'[i].weight ≤ (gnOf rd mu { g with all := l }).room) = true) := hid (decide_eq_true hf)
        go_wp2_with fail
        refine (fits_is R.ph rs'[i].weight hb.1 (by show Tg.held l ≤ _; omega) (by omega) (by omega) true HC.out).mono ?_
        rintro e w1 ⟨rfl, nq, rfl⟩
        go_wp2_with fail
        refine (passBy_any (R.ph.drewN nq) m hml hcnt).mono ?_
        rintro e w3 ⟨rfl, hp3, ht3⟩
        have HTK := take_any hp3 m hmb
        rw [HEB.out] at HTK
        go_wp2_with fail
        refine HTK.mono ?_
        rintro e w4 ⟨rfl, hp4, ht4, hc4⟩
        rw [HER.out] at hc4
        clear HTK
        go_wp2_with fail
        refine (hold_any hp4 i hir hb.1 (by show Tg.held l ≤ _; omega) (by omega) (by omega)).mono ?_
        rintro e w5 ⟨rfl, hp5, ht5⟩
        go_wp2_with fail
        have HS : LIR rd w gb mu g tv rs ns w5 (Tg.enter i l) (rs'.set i (settleR 2 rs'[i])) ((bumpN m ns').eraseIdx m) (ixs'.eraseIdx m) := by
          refine R.step ok.p2 HM.out hir hil HTN.out HST.out HEW.out (by rw [← HEW.out]; exact hf) hp5 ?_
          refine Tch.trans' (Tch.trans' (Tch.trans' (R.tch.drewN nq) ht3 fun k hk => Or.inl (R.sub k hk)) ht4 fun k hk => Or.inl (R.sub k (PS.sub_nodes (bump_sub m ns') hk))) ht5 fun k hk => Or.inl (R.sub k (PS.sub_nodes (bump_sub m ns') (PS.sub_nodes (erase_sub m _) hk)))
        refine (turn_any hp5 (HS.rel.bands HS.ok)).mono ?_
        rintro e w6 ⟨m6, hm6, rfl, n6, rfl⟩
        go_wp2
        go_roundg (Tg.waitN (Tg.enter i l))
        case rel => exact ⟨Tg.enter i l, _, _, _, m6, rfl, rfl, hm6, HS.drewN n6⟩
        case measure => have := Tg.waitN_enter l i hil HST.out; omega
      · have HC : Hid (decide ((gnOf rd mu { g with all := l }).held + rs'[i].weight ≤ (gnOf rd mu { g with all := l }).room) = false) := hid (decide_eq_false hf)
        go_wp2_with fail
        refine (fits_is R.ph rs'[i].weight hb.1 (by show Tg.held l ≤ _; omega) (by omega) (by omega) false HC.out).mono ?_
        rintro e w1 ⟨rfl, nq, rfl⟩
        go_wp2
        go_end0
        have e : Tg.letIn g.room g.pass l = l := Tg.letIn_full _ _ _ i hil HTN.out (by rw [← HEW.out]; omega)
        refine ⟨rfl, rs', ns', ixs', ?_⟩
        have := R.same.out
        rw [← this, e]
        exact R.drewN nq
end

end Go.Proofs.Ytekjgjhhjlcoaaa
