import Derived.Test.YtekjgjhhjlcoaaaPrgI
import Derived.Test.YtekjgjhhjlcoaaaRel
namespace Go.Proofs.Ytekjgjhhjlcoaaa
open Go.RowKit Go.Conc

structure RecOk (r : Rc) (t : Tg.Tk) : Prop where
  weight : r.weight = t.weight
  opn : isOpen r = (t.state == 1)
  stands : t.state ≠ 1 → r.stands = t.state
structure NodeOk (i : Nat) (n : Nd) (r : Rc) (t : Tg.Tk) : Prop where
  num : n.num = (i : Int) + 1
  rcd : n.rcd = r.blk
  band : n.band = t.band
  count : n.count = t.count
  till : n.till = t.till

/-- What the parts of a gate in memory say of its tickets. -/
structure Rel (all : List Tg.Tk) (rs : List Rc) (ns : List Nd) (ixs : List Nat) : Prop where
  len : rs.length = all.length
  rcs : ∀ (i : Nat) (t : Tg.Tk), all[i]? = some t → ∃ r, rs[i]? = some r ∧ RecOk r t
  nlen : ixs.length = ns.length
  sorted : ixs.Pairwise (· < ·)
  mem : ∀ i : Nat, i ∈ ixs ↔ ∃ t, all[i]? = some t ∧ t.state = 1
  node : ∀ j i : Nat, ixs[j]? = some i → ∃ n r t, ns[j]? = some n ∧ rs[i]? = some r ∧ all[i]? = some t ∧ NodeOk i n r t

theorem sorted_lt {l : List Nat} (h : l.Pairwise (· < ·)) {a b x y : Nat} (ha : l[a]? = some x) (hb : l[b]? = some y) (hab : a < b) : x < y := by
  obtain ⟨h1, rfl⟩ := List.getElem?_eq_some_iff.1 ha
  obtain ⟨h2, rfl⟩ := List.getElem?_eq_some_iff.1 hb
  exact List.pairwise_iff_getElem.1 h a b h1 h2 hab
theorem sorted_iff {l : List Nat} (h : l.Pairwise (· < ·)) {a b x y : Nat} (ha : l[a]? = some x) (hb : l[b]? = some y) : a < b ↔ x < y := by
  refine ⟨sorted_lt h ha hb, fun hxy => ?_⟩
  rcases Nat.lt_trichotomy a b with c | c | c
  · exact c
  · subst c; rw [ha] at hb; simp at hb; omega
  · have := sorted_lt h hb ha c; omega

section
variable {all : List Tg.Tk} {rs : List Rc} {ns : List Nd} {ixs : List Nat}

theorem Rel.at (h : Rel all rs ns ixs) {i : Nat} {t : Tg.Tk} (ht : all[i]? = some t) (hs : t.state = 1) : ∃ j : Nat, ixs[j]? = some i := by
  have := (h.mem i).2 ⟨t, ht, hs⟩
  obtain ⟨j, hj, e⟩ := List.getElem_of_mem this
  exact ⟨j, by rw [List.getElem?_eq_getElem hj, e]⟩

theorem Rel.waits (h : Rel all rs ns ixs) {j i : Nat} (hj : ixs[j]? = some i) : ∃ t, all[i]? = some t ∧ t.state = 1 :=
  (h.mem i).1 (List.mem_of_getElem? hj)

theorem Rel.turn_none (h : Rel all rs ns ixs) (pass : Int) (hn : ns = []) : Tg.turn pass all = 0 := by
  refine Tg.turn_none pass all fun i hi hs => ?_
  obtain ⟨j, hj⟩ := h.at (List.getElem?_eq_getElem hi) hs
  have h1 := (List.getElem?_eq_some_iff.1 hj).1
  have h2 := h.nlen
  rw [hn, List.length_nil] at h2
  omega

theorem Rel.turn_some (h : Rel all rs ns ixs) {pass : Int} (ok : Tg.TksOk pass all) {m : Nat} (ht : IsTurn pass ns (some m)) :
    ∃ (i : Nat) (t : Tg.Tk), ixs[m]? = some i ∧ all[i]? = some t ∧ t.state = 1 ∧ Tg.turn pass all = i + 1 := by
  obtain ⟨hm, hb1, hb2⟩ := ht
  have hmi : m < ixs.length := by have := h.nlen; omega
  have hix : ixs[m]? = some ixs[m] := List.getElem?_eq_getElem hmi
  obtain ⟨n, r, t, hn, hr, hat, hno⟩ := h.node m _ hix
  obtain ⟨t', hat', hst⟩ := h.waits hix
  rw [hat] at hat'
  simp at hat'
  subst hat'
  have hn' : ns[m] = n := by rw [List.getElem?_eq_getElem hm] at hn; simpa using hn
  obtain ⟨hil, hte⟩ := List.getElem?_eq_some_iff.1 hat
  have look : ∀ i (hi : i < all.length), all[i].state = 1 → ∃ j : Nat, ixs[j]? = some i ∧ ∃ hj : j < ns.length, ns[j].count = all[i].count ∧ ns[j].band = all[i].band := by
    intro i hi hs
    obtain ⟨j, hj⟩ := h.at (List.getElem?_eq_getElem hi) hs
    obtain ⟨n2, r2, t2, hn2, _, ht2, hno2⟩ := h.node j i hj
    obtain ⟨hjl, hne⟩ := List.getElem?_eq_some_iff.1 hn2
    rw [List.getElem?_eq_getElem hi] at ht2
    simp at ht2
    subst ht2
    exact ⟨j, hj, hjl, by rw [hne]; exact hno2.count, by rw [hne]; exact hno2.band⟩
  refine ⟨ixs[m], t, hix, hat, hst, ?_⟩
  have rkd : ∀ (n : Nd), rk pass n = 0 ∧ pass ≤ n.count ∨ rk pass n = 1 + n.band ∧ n.count < pass := by
    intro n
    unfold rk
    by_cases e : pass ≤ n.count
    · rw [if_pos e]; exact Or.inl ⟨rfl, e⟩
    · rw [if_neg e]; exact Or.inr ⟨rfl, by omega⟩
  have tb := ok _ (List.getElem_mem hil)
  rw [hte] at tb
  have c1 := tb.b1
  have hbm : ns[m].band = t.band := by rw [hn']; exact hno.band
  have hcm : ns[m].count = t.count := by rw [hn']; exact hno.count
  have bands : ∀ j (hj : j < ns.length), 0 ≤ ns[j].band := by
    intro j hj
    have hji : j < ixs.length := by have := h.nlen; omega
    obtain ⟨n2, r2, t2, hn2, _, ht2, hno2⟩ := h.node j _ (List.getElem?_eq_getElem hji)
    obtain ⟨_, e2⟩ := List.getElem?_eq_some_iff.1 hn2
    obtain ⟨hx, e3⟩ := List.getElem?_eq_some_iff.1 ht2
    have := (ok _ (List.getElem_mem hx)).b1
    rw [e2, hno2.band, ← e3]; exact this
  rcases rkd ns[m] with ⟨e1, e2⟩ | ⟨e1, e2⟩
  · refine Tg.turn_due pass all _ hil (by rw [hte]; exact hst) (by rw [hte, ← hcm]; exact e2) fun i hi hl hs => ?_
    obtain ⟨j, hj, hjl, f1, _⟩ := look i hl hs
    have := hb2 j ((sorted_iff h.sorted hj hix).2 hi) hjl
    rcases rkd ns[j] with ⟨g1, g2⟩ | ⟨g1, g2⟩ <;> omega
  · refine Tg.turn_band pass all _ hil (by rw [hte]; exact hst) (by rw [hte]; exact tb.b1) (by rw [hte]; exact tb.b2) (fun i hl hs => ?_) (fun i hl hs => ?_) fun i hi hl hs => ?_
    · obtain ⟨j, hj, hjl, f1, _⟩ := look i hl hs
      have := hb1 j hjl hjl
      rcases rkd ns[j] with ⟨g1, g2⟩ | ⟨g1, g2⟩ <;> omega
    · obtain ⟨j, hj, hjl, _, f2⟩ := look i hl hs
      have := hb1 j hjl hjl
      rw [hte]
      rcases rkd ns[j] with ⟨g1, g2⟩ | ⟨g1, g2⟩ <;> omega
    · obtain ⟨j, hj, hjl, _, f2⟩ := look i hl hs
      have := hb2 j ((sorted_iff h.sorted hj hix).2 hi) hjl
      rw [hte]
      rcases rkd ns[j] with ⟨g1, g2⟩ | ⟨g1, g2⟩ <;> omega

theorem Rel.bands (h : Rel all rs ns ixs) {pass : Int} (ok : Tg.TksOk pass all) : BandsOk ns := by
  intro j hj
  have hji : j < ixs.length := by have := h.nlen; omega
  obtain ⟨n2, r2, t2, hn2, _, ht2, hno2⟩ := h.node j _ (List.getElem?_eq_getElem hji)
  obtain ⟨_, e2⟩ := List.getElem?_eq_some_iff.1 hn2
  obtain ⟨hx, e3⟩ := List.getElem?_eq_some_iff.1 ht2
  have := ok _ (List.getElem_mem hx)
  rw [e2, hno2.band, ← e3]; exact ⟨this.b1, this.b2⟩

theorem enter_get (k : Nat) (l : List Tg.Tk) (i : Nat) : (Tg.enter k l)[i]? = if i < k then l[i]?.map Tg.bumpT else if i = k then l[i]?.map (Tg.setState 2) else l[i]? := by
  unfold Tg.enter
  rw [Tg.bumpTo_get, List.getElem?_modify]
  by_cases h : i < k
  · rw [if_pos h, if_pos h]
    cases l[i]? with
    | none => rfl
    | some t => simp [show ¬ k = i by omega]
  · rw [if_neg h, if_neg h]
    by_cases e : i = k
    · subst e; rw [if_pos rfl]; cases l[i]? <;> simp
    · rw [if_neg e]; cases l[i]? <;> simp [show ¬ k = i by omega]

theorem bump_state (t : Tg.Tk) : (Tg.bumpT t).state = t.state ∧ (Tg.bumpT t).weight = t.weight ∧ (Tg.bumpT t).band = t.band ∧ (Tg.bumpT t).till = t.till := by
  unfold Tg.bumpT; split <;> simp

/-- One comes in. -/
theorem Rel.enter (h : Rel all rs ns ixs) {m i : Nat} (hm : ixs[m]? = some i) (hi : i < rs.length) :
    Rel (Tg.enter i all) (rs.set i (settleR 2 rs[i])) ((bumpN m ns).eraseIdx m) (ixs.eraseIdx m) := by
  have hml := (List.getElem?_eq_some_iff.1 hm).1
  refine ⟨by rw [List.length_set, Tg.enter_length]; exact h.len, fun k t ht => ?_, ?_, ?_, fun k => ?_, fun j k hj => ?_⟩
  · rw [enter_get] at ht
    rw [List.getElem?_set]
    by_cases h1 : k < i
    · rw [if_pos h1] at ht
      obtain ⟨t0, ht0, rfl⟩ := Option.map_eq_some_iff.1 ht
      obtain ⟨r, hr, ro⟩ := h.rcs k t0 ht0
      have b := bump_state t0
      rw [if_neg (by omega)]
      exact ⟨r, hr, ⟨by rw [b.2.1]; exact ro.weight, by rw [b.1]; exact ro.opn, by rw [b.1]; exact ro.stands⟩⟩
    · rw [if_neg h1] at ht
      by_cases h2 : k = i
      · subst h2
        rw [if_pos rfl] at ht
        obtain ⟨t0, ht0, rfl⟩ := Option.map_eq_some_iff.1 ht
        obtain ⟨r, hr, ro⟩ := h.rcs k t0 ht0
        have er : rs[k] = r := by rw [List.getElem?_eq_getElem hi] at hr; simpa using hr
        rw [if_pos rfl, if_pos hi]
        refine ⟨_, rfl, ⟨by rw [er]; exact ro.weight, ?_, fun _ => rfl⟩⟩
        simp only [isOpen, settleR]
        cases rs[k].ch <;> rfl
      · rw [if_neg h2] at ht
        obtain ⟨r, hr, ro⟩ := h.rcs k t ht
        rw [if_neg (by omega)]
        exact ⟨r, hr, ro⟩
  · rw [List.length_eraseIdx_of_lt hml, List.length_eraseIdx_of_lt (by rw [bumpN_length, ← h.nlen]; exact hml), bumpN_length, h.nlen]
  · exact h.sorted.sublist (List.eraseIdx_sublist _ _)
  · rw [List.mem_eraseIdx_iff_getElem?]
    constructor
    · rintro ⟨j, hjm, hj⟩
      obtain ⟨t, ht, hs⟩ := h.waits hj
      have hne : k ≠ i := by
        rintro rfl
        rcases Nat.lt_trichotomy j m with c | c | c
        · have := sorted_lt h.sorted hj hm c; omega
        · exact hjm c
        · have := sorted_lt h.sorted hm hj c; omega
      rw [enter_get]
      by_cases h1 : k < i
      · rw [if_pos h1, ht]; exact ⟨_, rfl, by rw [(bump_state t).1]; exact hs⟩
      · rw [if_neg h1, if_neg hne]; exact ⟨t, ht, hs⟩
    · rintro ⟨t, ht, hs⟩
      rw [enter_get] at ht
      by_cases h1 : k < i
      · rw [if_pos h1] at ht
        obtain ⟨t0, ht0, rfl⟩ := Option.map_eq_some_iff.1 ht
        obtain ⟨j, hj⟩ := h.at ht0 (by rw [← (bump_state t0).1]; exact hs)
        refine ⟨j, ?_, hj⟩
        rintro rfl
        rw [hj] at hm; simp at hm; omega
      · rw [if_neg h1] at ht
        by_cases h2 : k = i
        · rw [if_pos h2] at ht
          obtain ⟨t0, ht0, rfl⟩ := Option.map_eq_some_iff.1 ht
          simp [Tg.setState] at hs
        · rw [if_neg h2] at ht
          obtain ⟨j, hj⟩ := h.at ht hs
          refine ⟨j, ?_, hj⟩
          rintro rfl
          rw [hj] at hm; simp at hm; omega
  · rw [List.getElem?_eraseIdx] at hj
    have key : ∀ j' : Nat, j' ≠ m → ixs[j']? = some k → ∃ n r t, (bumpN m ns)[j']? = some n ∧ (rs.set i (settleR 2 rs[i]))[k]? = some r ∧ (Tg.enter i all)[k]? = some t ∧ NodeOk k n r t := by
      intro j' hne hj'
      obtain ⟨n, r, t, hn, hr, ht, no⟩ := h.node j' k hj'
      have hki : k ≠ i := by
        rintro rfl
        rcases Nat.lt_trichotomy j' m with c | c | c
        · have := sorted_lt h.sorted hj' hm c; omega
        · exact hne c
        · have := sorted_lt h.sorted hm hj' c; omega
      obtain ⟨t', ht', hs⟩ := h.waits hj'
      rw [ht] at ht'; simp at ht'; subst ht'
      have e2 : (rs.set i (settleR 2 rs[i]))[k]? = some r := by rw [List.getElem?_set_ne (fun x => hki x.symm)]; exact hr
      by_cases c : j' < m
      · have hlt := (sorted_iff h.sorted hj' hm).1 c
        refine ⟨bumpNd n, r, Tg.bumpT t, by rw [bumpN_get, if_pos c, hn]; rfl, e2, by rw [enter_get, if_pos hlt, ht]; rfl, ⟨no.num, no.rcd, ?_, ?_, ?_⟩⟩
        · rw [(bump_state t).2.2.1]; exact no.band
        · simp only [bumpNd, Tg.bumpT, hs, if_true]; rw [no.count]
        · rw [(bump_state t).2.2.2]; exact no.till
      · have hge : ¬ k < i := fun x => c ((sorted_iff h.sorted hj' hm).2 x)
        exact ⟨n, r, t, by rw [bumpN_get, if_neg c, hn], e2, by rw [enter_get, if_neg hge, if_neg hki, ht], no⟩
    by_cases c : j < m
    · rw [if_pos c] at hj
      rw [List.getElem?_eraseIdx, if_pos c]
      exact key j (by omega) hj
    · rw [if_neg c] at hj
      rw [List.getElem?_eraseIdx, if_neg c]
      exact key (j + 1) (by omega) hj
end

end Go.Proofs.Ytekjgjhhjlcoaaa
