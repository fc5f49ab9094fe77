import Derived.Test.YtekjgjhhjlcoaaaPrgO
namespace Go.Proofs.Ytekjgjhhjlcoaaa
open Go.RowKit Go.Conc Go.MuLone

section
variable {rd : Option Int} {w w' : World} {gb : Nat} {q : Gn} {tv : Value} {all : List Tg.Tk} {rs : List Rc} {ns : List Nd} {ixs : List Nat}

/-- One that waits leaves. -/
theorem Rel.leave (h : Rel all rs ns ixs) {m i : Nat} (hm : ixs[m]? = some i) (hi : i < rs.length) (s : Int) (hs : s ≠ 1) :
    Rel (all.modify i (Tg.setState s)) (rs.set i (settleR s rs[i])) (ns.eraseIdx m) (ixs.eraseIdx m) := by
  have hml := (List.getElem?_eq_some_iff.1 hm).1
  have hil : i < all.length := by rw [← h.len]; exact hi
  have ge : ∀ k : Nat, k ≠ i → (all.modify i (Tg.setState s))[k]? = all[k]? := fun k hk => by
    rw [List.getElem?_modify]; cases all[k]? <;> simp [show ¬ i = k from fun x => hk x.symm]
  have gi : (all.modify i (Tg.setState s))[i]? = some (Tg.setState s all[i]) := by rw [List.getElem?_modify, List.getElem?_eq_getElem hil]; simp
  have other : ∀ j k : Nat, j ≠ m → ixs[j]? = some k → k ≠ i := by
    rintro j k hjm hj rfl
    rcases Nat.lt_trichotomy j m with c | c | c
    · have := sorted_lt h.sorted hj hm c; omega
    · exact hjm c
    · have := sorted_lt h.sorted hm hj c; omega
  refine ⟨by simp [h.len], fun k t ht => ?_, ?_, h.sorted.sublist (List.eraseIdx_sublist _ _), fun k => ?_, fun j k hj => ?_⟩
  · by_cases e : k = i
    · subst e
      rw [gi] at ht
      simp at ht
      subst ht
      obtain ⟨r, hr, ro⟩ := h.rcs k _ (List.getElem?_eq_getElem hil)
      have er : rs[k] = r := by rw [List.getElem?_eq_getElem hi] at hr; simpa using hr
      refine ⟨settleR s rs[k], by rw [List.getElem?_set_self hi], ⟨by rw [er]; exact ro.weight, ?_, fun _ => rfl⟩⟩
      simp only [isOpen, settleR, Tg.setState]
      cases rs[k].ch <;> simp [hs]
    · rw [ge k e] at ht
      obtain ⟨r, hr, ro⟩ := h.rcs k t ht
      exact ⟨r, by rw [List.getElem?_set_ne (fun x => e x.symm)]; exact hr, ro⟩
  · rw [List.length_eraseIdx_of_lt hml, List.length_eraseIdx_of_lt (by rw [← h.nlen]; exact hml), h.nlen]
  · rw [List.mem_eraseIdx_iff_getElem?]
    constructor
    · rintro ⟨j, hjm, hj⟩
      obtain ⟨t, ht, hst⟩ := h.waits hj
      exact ⟨t, by rw [ge k (other j k hjm hj)]; exact ht, hst⟩
    · rintro ⟨t, ht, hst⟩
      have e : k ≠ i := by
        rintro rfl
        rw [gi] at ht
        simp at ht
        subst ht
        exact hs hst
      rw [ge k e] at ht
      obtain ⟨j, hj⟩ := h.at ht hst
      refine ⟨j, ?_, hj⟩
      rintro rfl
      rw [hj] at hm; simp at hm; exact e hm
  · rw [List.getElem?_eraseIdx] at hj
    have key : ∀ j' : Nat, j' ≠ m → ixs[j']? = some k → ∃ n r t, ns[j']? = some n ∧ (rs.set i (settleR s rs[i]))[k]? = some r ∧ (all.modify i (Tg.setState s))[k]? = some t ∧ NodeOk k n r t := by
      intro j' hne hj'
      obtain ⟨n, r, t, hn, hr, ht, no⟩ := h.node j' k hj'
      have e := other j' k hne hj'
      exact ⟨n, r, t, hn, by rw [List.getElem?_set_ne (fun x => e x.symm)]; exact hr, by rw [ge k e]; exact ht, no⟩
    by_cases c : j < m
    · rw [if_pos c] at hj
      rw [List.getElem?_eraseIdx, if_pos c]
      exact key j (by omega) hj
    · rw [if_neg c] at hj
      rw [List.getElem?_eraseIdx, if_neg c]
      exact key (j + 1) (by omega) hj

set_option maxHeartbeats 400000 in
theorem leave_any (h : PH w gb q tv rs ns) (k : Nat) (hk : k < ns.length) (i : Nat) (hi : i < rs.length) (hr : ns[k].rcd = rs[i].blk) (s : Int) :
    Calls Try.prog 53 #[.pointer (some ⟨gb, 0, none⟩), .pointer (some ⟨ns[k].blk, 0, none⟩), .int .i64 s] w fun e w' => e = .returned (.tuple #[]) ∧ PH w' gb q tv (rs.set i (settleR s rs[i])) (ns.eraseIdx k) ∧ Tch (PS gb tv rs ns) w w' := by
  have er : pr ns[k].rcd = .pointer (some ⟨rs[i].blk, 0, none⟩) := by rw [hr]; rfl
  have ER := hid er
  clear hr er
  have HT := take_any h k hk
  go_enter Try.func53, Try.ntmps53
  go_wp2_with fail
  refine HT.mono ?_
  rintro e w1 ⟨rfl, hp1, ht1, hc1⟩
  rw [ER.out] at hc1
  clear HT
  go_wp2_with fail
  refine (settle_any hp1 i hi s).mono ?_
  rintro e w2 ⟨rfl, hp2, ht2⟩
  go_wp2
  go_end0
  exact ⟨rfl, hp2, ht1.trans' ht2 fun x hx => Or.inl (PS.sub_nodes (erase_sub k ns) hx)⟩

set_option maxHeartbeats 400000 in
theorem place_any (h : PH w gb q tv rs ns) (n : Int) (k : Nat) (hk : k < ns.length) (hn : ns[k].num = n) (hb : ∀ j, j < k → ∀ hj : j < ns.length, ns[j].num ≠ n) :
    Calls Try.prog 54 #[.pointer (some ⟨gb, 0, none⟩), .int .i64 n] w fun e w' => e = .returned (.pointer (some ⟨ns[k].blk, 0, none⟩)) ∧ w' = w := by
  have FI := first_any h
  rw [pn_head, pn_at ns 0 (by omega)] at FI
  have HN := hid hn
  clear hn
  go_enter Try.func54, Try.ntmps54
  go_wp2_with (go_at_call 39; refine FI.mono ?_; rintro e w' ⟨rfl, rfl⟩)
  go_loopg [5] k (fun r p wr => ∃ j, j + r = k ∧ p = pn ns[j]? ∧ wr = w')
  case atStart => exact ⟨0, by omega, (pn_at ns 0 (by omega)).symm, rfl⟩
  case round =>
    obtain ⟨j, hj, rfl, rfl⟩ := hrel
    have hjl : j < ns.length := by omega
    have c0 := h.ncell j hjl 0
    simp at c0
    rw [pn_at ns j hjl]
    by_cases hlt : j < k
    · have hne : (ns[j].num != n) = true := by simpa using hb j hlt hjl
      have N1 := next_any h j hjl
      go_wp2_with (go_at_call 76; refine N1.mono ?_; rintro e w' ⟨rfl, rfl⟩)
      go_roundg (gk - 1)
      case rel => exact ⟨j + 1, by omega, rfl, rfl⟩
      case measure => omega
    · obtain rfl : j = k := by omega
      have hne : (ns[j].num != n) = false := by simpa using HN.out
      go_wp2
      go_ret
      exact ⟨rfl, rfl⟩

theorem Rel.place (h : Rel all rs ns ixs) {m i : Nat} (hm : ixs[m]? = some i) : ∃ hk : m < ns.length, ns[m].num = (i : Int) + 1 ∧ ∀ j, j < m → ∀ hj : j < ns.length, ns[j].num ≠ (i : Int) + 1 := by
  have num : ∀ j k : Nat, ixs[j]? = some k → ∃ hj : j < ns.length, ns[j].num = (k : Int) + 1 := by
    intro j k hj
    obtain ⟨n, r, t, hn, _, _, no⟩ := h.node j k hj
    obtain ⟨hl, e⟩ := List.getElem?_eq_some_iff.1 hn
    exact ⟨hl, by rw [e]; exact no.num⟩
  obtain ⟨hk, e⟩ := num m i hm
  refine ⟨hk, e, fun j hjm hj => ?_⟩
  have hji : j < ixs.length := by have := h.nlen; omega
  obtain ⟨_, e2⟩ := num j _ (List.getElem?_eq_getElem hji)
  have := sorted_lt h.sorted (List.getElem?_eq_getElem hji) hm hjm
  omega

/-- Those that are late have left, as far as it has come. -/
structure DLR (w : World) (gb : Nat) (q : Gn) (tv : Value) (all : List Tg.Tk) (rs : List Rc) (ns : List Nd) (wr : World) (l : List Tg.Tk) (rs' : List Rc) (ns' : List Nd) (ixs' : List Nat) (p : Nat) : Prop where
  ph : PH wr gb q tv rs' ns'
  rel : Rel l rs' ns' ixs'
  len : l.length = all.length
  rlen : rs'.length = rs.length
  done : ∀ (i : Nat) (t : Tg.Tk), all[i]? = some t → l[i]? = some (Tg.lateT q.time t) ∨ (l[i]? = some t ∧ ∃ p' : Nat, p ≤ p' ∧ ixs'[p']? = some i)
  tch : Tch (PS gb tv rs ns) w wr
  sub : ∀ k, PS gb tv rs' ns' k → PS gb tv rs ns k

variable {rd : Option Int} {wr : World} {l : List Tg.Tk} {rs' : List Rc} {ns' : List Nd} {ixs' : List Nat} {p : Nat}

theorem DLR.drewN (R : DLR w gb q tv all rs ns wr l rs' ns' ixs' p) (n : Nat) : DLR w gb q tv all rs ns (wr.drewN n) l rs' ns' ixs' p :=
  ⟨R.ph.drewN n, R.rel, R.len, R.rlen, R.done, R.tch.drewN n, R.sub⟩

theorem DLR.at (R : DLR w gb q tv all rs ns wr l rs' ns' ixs' p) (hp : p < ns'.length) : ∃ i : Nat, ∃ hi : i < rs'.length, ∃ t, ixs'[p]? = some i ∧ l[i]? = some t ∧ t.state = 1 ∧ ns'[p].till = t.till ∧ ns'[p].rcd = rs'[i].blk := by
  have hpi : p < ixs'.length := by rw [R.rel.nlen]; exact hp
  have hx := List.getElem?_eq_getElem hpi
  obtain ⟨n, r, t, hn, hr, ht, no⟩ := R.rel.node p _ hx
  obtain ⟨t', ht', hs⟩ := R.rel.waits hx
  rw [ht] at ht'; simp at ht'; subst ht'
  obtain ⟨hir, er⟩ := List.getElem?_eq_some_iff.1 hr
  obtain ⟨_, en⟩ := List.getElem?_eq_some_iff.1 hn
  exact ⟨ixs'[p], hir, t, hx, ht, hs, by rw [en]; exact no.till, by rw [en, er]; exact no.rcd⟩

theorem DLR.stay (R : DLR w gb q tv all rs ns wr l rs' ns' ixs' p) (hp : p < ns'.length) (hn : ns'[p].till ≠ q.time) : DLR w gb q tv all rs ns wr l rs' ns' ixs' (p + 1) := by
  refine ⟨R.ph, R.rel, R.len, R.rlen, fun i t ht => ?_, R.tch, R.sub⟩
  rcases R.done i t ht with x | ⟨x, p', hp', hx⟩
  · exact Or.inl x
  · by_cases e : p' = p
    · subst e
      obtain ⟨i2, hi2, t2, h1, h2, h3, h4, _⟩ := R.at hp
      rw [hx] at h1; simp at h1; subst h1
      rw [x] at h2; simp at h2; subst h2
      left
      rw [x]
      unfold Tg.lateT
      rw [if_neg (by rintro ⟨_, y⟩; exact hn (h4.trans y))]
    · exact Or.inr ⟨x, p', by omega, hx⟩

theorem DLR.gone (R : DLR w gb q tv all rs ns wr l rs' ns' ixs' p) (hp : p < ns'.length) (hn : ns'[p].till = q.time) {i : Nat} (hix : ixs'[p]? = some i) (hi : i < rs'.length) {w2 : World}
    (h2 : PH w2 gb q tv (rs'.set i (settleR 4 rs'[i])) (ns'.eraseIdx p)) (ht : Tch (PS gb tv rs' ns') wr w2) :
    DLR w gb q tv all rs ns w2 (l.modify i (Tg.setState 4)) (rs'.set i (settleR 4 rs'[i])) (ns'.eraseIdx p) (ixs'.eraseIdx p) p := by
  obtain ⟨i2, hi2, t2, h1, h3, h4, h5, _⟩ := R.at hp
  rw [hix] at h1; simp at h1; subst h1
  refine ⟨h2, R.rel.leave hix hi 4 (by omega), by simp [R.len], by simp [R.rlen], fun k t hk => ?_, R.tch.trans' ht fun x hx => Or.inl (R.sub x hx), fun x hx => R.sub x (PS.sub_nodes (erase_sub p ns') (PS.sub_settle hi 4 hx))⟩
  have ge : ∀ k : Nat, k ≠ i → (l.modify i (Tg.setState 4))[k]? = l[k]? := fun k hk => by
    rw [List.getElem?_modify]; cases l[k]? <;> simp [show ¬ i = k from fun x => hk x.symm]
  by_cases e : k = i
  · subst e
    left
    rcases R.done k t hk with x | ⟨x, _⟩
    · rw [h3] at x
      simp at x
      rw [List.getElem?_modify, h3]
      subst x
      exfalso
      unfold Tg.lateT at h4 h5
      split at h4
      · simp [Tg.setState] at h4
      · rename_i hx
        rw [if_neg hx] at h5
        exact hx ⟨h4, by rw [← h5]; exact hn⟩
    · rw [h3] at x
      simp at x
      subst x
      rw [List.getElem?_modify, h3]
      unfold Tg.lateT
      rw [if_pos ⟨h4, by rw [← h5]; exact hn⟩]
      simp
  · rw [ge k e]
    rcases R.done k t hk with x | ⟨x, p', hp', hx⟩
    · exact Or.inl x
    · right
      refine ⟨x, p' - 1, ?_, ?_⟩
      · have : p' ≠ p := by rintro rfl; rw [hix] at hx; simp at hx; exact e hx.symm
        omega
      · have : p' ≠ p := by rintro rfl; rw [hix] at hx; simp at hx; exact e hx.symm
        rw [List.getElem?_eraseIdx, if_neg (by omega)]
        rw [show p' - 1 + 1 = p' by omega]; exact hx

theorem DLR.end (R : DLR w gb q tv all rs ns wr l rs' ns' ixs' p) (hp : ns'.length ≤ p) : l = all.map (Tg.lateT q.time) := by
  apply List.ext_getElem?
  intro i
  rw [List.getElem?_map]
  by_cases hi : i < all.length
  · rcases R.done i _ (List.getElem?_eq_getElem hi) with x | ⟨x, p', hp', hx⟩
    · rw [x, List.getElem?_eq_getElem hi]; rfl
    · have := (List.getElem?_eq_some_iff.1 hx).1
      have := R.rel.nlen
      omega
  · rw [List.getElem?_eq_none (by have := R.len; omega), List.getElem?_eq_none (by omega)]; rfl

set_option maxHeartbeats 1000000 in
theorem dropLate_any (h : PH w gb q tv rs ns) (hr : Rel all rs ns ixs) :
    Calls Try.prog 46 #[.pointer (some ⟨gb, 0, none⟩)] w fun e w' => e = .returned (.tuple #[]) ∧ ∃ rs' ns' ixs' p, DLR w gb q tv all rs ns w' (all.map (Tg.lateT q.time)) rs' ns' ixs' p := by
  have R0 : DLR w gb q tv all rs ns w all rs ns ixs 0 := by
    refine ⟨h, hr, rfl, rfl, fun i t ht => ?_, Tch.refl _ _, fun _ hk => hk⟩
    by_cases hs : t.state = 1
    · obtain ⟨j, hj⟩ := hr.at ht hs
      exact Or.inr ⟨ht, j, by omega, hj⟩
    · left; rw [ht]; unfold Tg.lateT; rw [if_neg (fun x => hs x.1)]
  have FI := first_any h
  rw [pn_head] at FI
  obtain ⟨p0, hp0⟩ : ∃ p0, pn ns[0]? = .pointer p0 := ⟨_, rfl⟩
  rw [hp0] at FI
  have HP0 := hid hp0
  clear hp0
  go_enter Try.func46, Try.ntmps46
  go_wp2_with (go_at_call 39; refine FI.mono ?_; rintro e w' ⟨rfl, rfl⟩)
  go_loopg [2, 3] ns.length (fun r _ n wr => ∃ l rs' ns' ixs' p, p + r = ns'.length ∧ n = pn ns'[p]? ∧ DLR w' gb q tv all rs ns wr l rs' ns' ixs' p)
  case atStart => exact ⟨all, rs, ns, ixs, 0, by omega, HP0.out.symm, R0⟩
  case round =>
    obtain ⟨l, rs', ns', ixs', p, hp, rfl, R⟩ := hrel
    clear R0 h hr FI HP0
    by_cases hlt : p < ns'.length
    · have c4 := R.ph.ncell p hlt 4
      have g4 := R.ph.gcell 4
      simp at c4 g4
      obtain ⟨i, hi, t, hix, _, _, _, hrc⟩ := R.at hlt
      have PA := pn_at ns' p hlt
      have NX := next_any R.ph p hlt
      have LV := fun n => leave_any (R.ph.drewN n) p hlt i hi hrc 4
      have stay := R.stay hlt
      have gone := fun w2 (hn : ns'[p].till = q.time) => R.gone (w2 := w2) hlt hn hix hi
      have HE : Hid (∀ x : Nat, (ns'.eraseIdx p)[p]? = ns'[p + 1]?) := hid fun _ => by rw [List.getElem?_eraseIdx, if_neg (by omega)]
      have HLE := List.length_eraseIdx_of_lt hlt
      obtain ⟨bp, ebp⟩ : ∃ b, ns'[p].blk = b := ⟨_, rfl⟩
      obtain ⟨tp, etp⟩ : ∃ b, ns'[p].till = b := ⟨_, rfl⟩
      rw [ebp] at PA NX c4
      simp only [ebp] at LV
      rw [etp] at c4 stay
      simp only [etp] at gone
      obtain ⟨p1, ep1⟩ : ∃ b, pn ns'[p + 1]? = .pointer b := ⟨_, rfl⟩
      rw [ep1] at NX
      have EP1 := hid ep1
      have HIX := hid hix
      rw [PA]
      clear ebp etp ep1 PA hix hrc
      by_cases hnow : tp = q.time
      · have hnow' : (tp == q.time) = true := by simpa using hnow
        go_wp2_with (go_at_call 76; refine NX.mono ?_; rintro e w' ⟨rfl, rfl⟩)
        go_quiet (fail)
        go_wp2_with fail
        refine (LV nq).mono ?_
        rintro e w2 ⟨rfl, hp2, ht2⟩
        have R2 := (gone w2 hnow hp2) (by
          exact ⟨ht2.os, ht2.tape, ht2.output, ht2.size, ht2.block⟩)
        go_wp2
        go_roundg (gk - 1)
        case rel => exact ⟨_, _, _, _, p, by omega, by rw [HE.out 0, EP1.out], R2⟩
        case measure => omega
      · have hnow' : (tp == q.time) = false := by simpa using hnow
        go_wp2_with (go_at_call 76; refine NX.mono ?_; rintro e w' ⟨rfl, rfl⟩)
        go_quiet (fail)
        go_wp2
        go_roundg (gk - 1)
        case rel => exact ⟨_, _, _, _, p + 1, by omega, EP1.out.symm, (stay hnow).drewN _⟩
        case measure => omega
    · rw [pn_past ns' p hlt]
      go_wp2
      go_end0
      have e := R.end (by omega)
      subst e
      exact ⟨rfl, _, _, _, _, R⟩
end

end Go.Proofs.Ytekjgjhhjlcoaaa
