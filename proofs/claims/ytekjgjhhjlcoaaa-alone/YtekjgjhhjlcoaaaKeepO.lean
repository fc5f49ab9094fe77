import Derived.Test.YtekjgjhhjlcoaaaKeepA
import Derived.Test.YtekjgjhhjlcoaaaPrgS
import Derived.Test.YtekjgjhhjlcoaaaModI
namespace Tg

theorem writersN_bound (n : Int) (l : List Tk) (bs : List Bool) : 0 ≤ writersN n l bs ∧ writersN n l bs ≤ l.length := by
  induction l generalizing bs with
  | nil => cases bs <;> simp [writersN]
  | cons t r ih =>
    cases bs with
    | nil => simp [writersN]; omega
    | cons b bs =>
      have := ih bs
      simp only [writersN, List.length_cons]
      split <;> omega
theorem readersN_bound (n : Int) (l : List Tk) (bs : List Bool) : 0 ≤ readersN n l bs ∧ readersN n l bs ≤ l.length := by
  induction l generalizing bs with
  | nil => cases bs <;> simp [readersN]
  | cons t r ih =>
    cases bs with
    | nil => simp [readersN]; omega
    | cons b bs =>
      have := ih bs
      simp only [readersN, List.length_cons]
      split <;> omega
end Tg
namespace Go.Proofs.Ytekjgjhhjlcoaaa
open Go.RowKit Go.Conc

section
variable {n : Int} {w w' : World} {gb : Nat} {g : Tg.Gt} {S : Nat → Prop}

theorem ga_newHall (H : GateHall) (n pass : Int) (h1 : 1 ≤ n ∧ n ≤ 100) (h2 : 0 ≤ pass ∧ pass ≤ 20) (w : World) :
    Calls Try.prog 26 #[.int .i64 n, .int .i64 pass] w fun e w' => ∃ hb S, e = .returned (.tuple #[.pointer (some ⟨hb, 0, none⟩), .int .i64 0]) ∧ GAr (some n) w' hb (Tg.fresh n pass) S ∧ Tch (fun _ => False) w w' ∧ ∀ k, S k → w.heap.size ≤ k := by
  have he : Tg.hallErr n pass = 0 := by unfold Tg.hallErr Tg.newErr; rw [if_neg (by omega), if_neg (by omega), if_neg (by omega)]
  have hn : Tg.newErr n pass = 0 := by unfold Tg.newErr; rw [if_neg (by omega), if_neg (by omega)]
  refine (H.newHall n pass w).mono ?_
  rintro e w' (⟨_, hb, rfl, hhb, hp, ht⟩ | ⟨hx, _⟩)
  · refine ⟨hb, _, rfl, ⟨⟨_, _, _, hp, rfl⟩, Tg.fresh_ok _ _ hn, Or.inl rfl⟩, ht, fun k hk => ?_⟩
    rcases hk with x | x | ⟨r, hr, _⟩ | ⟨r, hr, _⟩ | ⟨m, hm, _⟩
    · omega
    · simp [Value.ownBlock] at x
    · simp at hr
    · simp at hr
    · simp at hm
  · exact absurd he hx
theorem ga_read (H : GateHall) (h : GAr (some n) w gb g S) (wait : Int) (hn : g.all.length + 1 ≤ 10000000000000) (ht : g.time ≤ 4611686018427387904) :
    Calls Try.prog 27 #[.pointer (some ⟨gb, 0, none⟩), .int .i64 wait] w fun e w' =>
      e = .returned (.tuple #[.int .i64 (Tg.ask g 1 1 wait).2.1, .int .i64 (Tg.ask g 1 1 wait).2.2.1, .int .i64 (Tg.ask g 1 1 wait).2.2.2]) ∧ GSr (some n) w S gb (Tg.ask g 1 1 wait).1 w' := by
  obtain ⟨tv, rs, ns, hp, rfl⟩ := h.ex
  refine (H.read hp h.ok h.quiet wait hn ht).mono ?_
  rintro e w' ⟨he, tv', rs', ns', L⟩
  exact ⟨he, GSr.of L (Tg.ask_ok _ _ _ _ h.ok) (ask_quiet' _ h.quiet _ _ _)⟩
theorem ga_write (H : GateHall) (h : GAr (some n) w gb g S) (wait : Int) (hn : g.all.length + 1 ≤ 10000000000000) (ht : g.time ≤ 4611686018427387904) :
    Calls Try.prog 28 #[.pointer (some ⟨gb, 0, none⟩), .int .i64 wait] w fun e w' =>
      e = .returned (.tuple #[.int .i64 (Tg.ask g n 0 wait).2.1, .int .i64 (Tg.ask g n 0 wait).2.2.1, .int .i64 (Tg.ask g n 0 wait).2.2.2]) ∧ GSr (some n) w S gb (Tg.ask g n 0 wait).1 w' := by
  obtain ⟨tv, rs, ns, hp, rfl⟩ := h.ex
  refine (H.write hp h.ok h.quiet wait hn ht).mono ?_
  rintro e w' ⟨he, tv', rs', ns', L⟩
  exact ⟨he, GSr.of L (Tg.ask_ok _ _ _ _ h.ok) (ask_quiet' _ h.quiet _ _ _)⟩
end

def bvs (l : List Bool) : List Value := l.map Value.bool

/-- What the hall's law holds: a hall, and who is a writer. -/
structure HL (N : Nat) (w0 w : World) (hb : Nat) (n : Int) (g : Tg.Gt) (S : Nat → Prop) (bv : Value) (bs : List Bool) : Prop where
  ga : GAr (some n) w hb g S
  hl : Tg.Hl n g bs
  row : w.ownsRow 0 4 1 bv bs.length (bvs bs)
  bS : ∀ k, bv.ownBlock = some k → ¬ S k
  blow : ∀ k, bv.ownBlock = some k → N ≤ k
  slow : ∀ k, S k → N ≤ k
  bel : Below N w0 w
  size : N ≤ w.heap.size

section
variable {N : Nat} {w0 w w' : World} {hb : Nat} {n : Int} {g g' : Tg.Gt} {S S' : Nat → Prop} {bv bv' : Value} {bs bs' : List Bool}

theorem HL.gate (h : HL N w0 w hb n g S bv bs) (hg : GAr (some n) w' hb g' S') (ht : Tch S w w') (hs : ∀ k, S' k → S k ∨ w.heap.size ≤ k) (hl : Tg.Hl n g' bs) : HL N w0 w' hb n g' S' bv bs := by
  have hz := h.size
  refine ⟨hg, hl, ownsRow_keep h.row fun k hk => ht.block k (h.row.lt k hk).2 (h.bS k hk), fun k hk x => ?_, h.blow, fun k hk => ?_, ?_, by have := ht.size; omega⟩
  · rcases hs k x with y | y
    · exact h.bS k hk y
    · have := (h.row.lt k hk).2; omega
  · rcases hs k hk with y | y
    · exact h.slow k y
    · omega
  · exact h.bel.trans ⟨ht.os, ht.tape, ht.output, ht.size, fun k hk => ht.block k (by omega) fun x => by have := h.slow k x; omega⟩
theorem HL.same (h : HL N w0 w hb n g S bv bs) (hg : GAr (some n) w' hb g S) (ht : Tch S w w') : HL N w0 w' hb n g S bv bs := h.gate hg ht (fun _ x => Or.inl x) h.hl
theorem HL.gs (h : HL N w0 w hb n g S bv bs) (hg : GSr (some n) w S hb g' w') (hl : Tg.Hl n g' bs) : ∃ S', HL N w0 w' hb n g' S' bv bs := by
  obtain ⟨S', h1, h2, h3⟩ := hg
  exact ⟨S', h.gate h1 h2 h3 hl⟩
theorem HL.grow (h : HL N w0 w hb n g S bv bs) (ht : Tch (fun _ => False) w w') : HL N w0 w' hb n g S bv bs :=
  ⟨h.ga.tch ht (fun _ _ x => x), h.hl, ownsRow_keep h.row fun k hk => ht.block k (h.row.lt k hk).2 (fun x => x), h.bS, h.blow, h.slow, h.bel.trans ⟨ht.os, ht.tape, ht.output, ht.size, fun k hk => ht.block k (by have := h.size; omega) (fun x => x)⟩, by have := h.size; have := ht.size; omega⟩
theorem HL.drewN (h : HL N w0 w hb n g S bv bs) (m : Nat) : HL N w0 (w.drewN m) hb n g S bv bs := h.grow ((Tch.refl _ _).drewN m)

/-- One has asked: the gate first, then the list. -/
theorem HL.asked (h : HL N w0 w hb n g S bv bs) (b : Bool) (hg : GSr (some n) w S hb g' w') (hl : Tg.Hl n g' (bs ++ [b])) {w2 : World} (ho : w2.ownsRow 0 4 1 bv' (bs.length + 1) (bvs bs ++ [.bool b]))
    (hgr : (w'.alloc (.cells #[.bool b] 4)).grownBy w2 bv.ownBlock) (hm : Moved (w'.alloc (.cells #[.bool b] 4)) bv bv') : ∃ S', HL N w0 w2 hb n g' S' bv' (bs ++ [b]) := by
  obtain ⟨S', h1, h2, h3⟩ := hg
  have hz := h.size
  have hz2 := h2.size
  have hz3 := hgr.size
  simp at hz3
  have bSr : ∀ k, bv.ownBlock = some k → ¬ S' k := fun k hk x => by
    rcases h3 k x with y | y
    · exact h.bS k hk y
    · have := (h.row.lt k hk).2; omega
  have old : ∀ k, bv'.ownBlock = some k → bv.ownBlock = some k ∨ w'.heap.size ≤ k := fun k hk => by
    rcases hm with y | ⟨j, y, z⟩
    · exact Or.inl (by rw [← y]; exact hk)
    · rw [y] at hk; simp at hk z; exact Or.inr (by omega)
  have keep : ∀ k, k < w'.heap.size → bv.ownBlock ≠ some k → w2.heap[k]? = w'.heap[k]? := fun k hk hn => (hgr.block k (by simp; omega) fun e => hn e.symm).trans (Below.heap_alloc _ _ _ hk)
  refine ⟨S', ⟨h1.keep fun k hk => keep k (h1.lt k hk) fun e => bSr k e hk, hl, by simpa [bvs] using ho, fun k hk x => ?_, fun k hk => ?_, fun k hk => ?_, ?_, by omega⟩⟩
  · rcases old k hk with y | y
    · exact bSr k y x
    · have := h1.lt k x; omega
  · rcases old k hk with y | y
    · exact h.blow k y
    · omega
  · rcases h3 k hk with y | y
    · exact h.slow k y
    · omega
  · refine h.bel.trans ⟨hgr.os.trans h2.os, hgr.tape.trans h2.tape, hgr.output.trans h2.output, by omega, fun k hk => ?_⟩
    rw [keep k (by omega) (fun e => by have := h.blow k e; omega)]
    exact h2.block k (by omega) fun x => by have := h.slow k x; omega

theorem HL.form (h : HL N w0 w hb n g S bv bs) : ∃ ao cap, bv = .slice ao bs.length cap := row_form h.row
theorem HL.at (h : HL N w0 w hb n g S bv bs) {ao : Option Addr} {m cap : Nat} (hv : bv = .slice ao m cap) (k : Nat) (hk : k < bs.length) : ∃ ab, ao = some ⟨ab, 0, none⟩ ∧ w.cell? ⟨ab, k, none⟩ = some (.bool bs[k]) := by
  rcases h.row.2 with ⟨e, hn⟩ | ⟨ab, cap', cur, e, _⟩
  · omega
  · have hx := h.row.cells (g := ab) (by rw [e]; rfl) k (.bool bs[k]) (by simp [bvs, hk])
    rw [Addr.add_lit] at hx
    rw [hv] at e
    simp only [Value.slice.injEq] at e
    exact ⟨ab, e.1, by simpa using hx⟩

theorem Try.infoBool : (Try.prog.info? 4).map (fun i => (i.zero, i.size, i.bytes)) = some (some (.bool false), 1, 1) := by kernel_rfl

set_option maxRecDepth 20000 in
set_option maxHeartbeats 2000000 in
theorem alone_any (h : HL N w0 w hb n g S bv bs) (hn : 2 ≤ n) (hl : bs.length ≤ 10000000000000) :
    Calls Try.prog 31 #[.pointer (some ⟨hb, 0, none⟩), bv, .int .i64 n] w fun e w' => e = .returned (.bool true) ∧ HL N w0 w' hb n g S bv bs := by
  obtain ⟨ao, cap, rfl⟩ := h.form
  have hgl := h.hl.len
  have HGL := hid hgl
  have hal := h.hl.alone hn
  clear hgl
  go_enter Try.func31, Try.ntmps31
  go_wp2
  go_loopg [7, 8, 9] bs.length (fun r wv rv iv wr => ∃ i, i + r = bs.length ∧ wv = .int .i64 (Tg.writersN n (g.all.take i) (bs.take i)) ∧ rv = .int .i64 (Tg.readersN n (g.all.take i) (bs.take i)) ∧ iv = .int .i64 (i : Int) ∧ HL N w0 wr hb n g S (.slice ao bs.length cap) bs)
  case atStart => exact ⟨0, by omega, by simp [Tg.writersN], by simp [Tg.readersN], rfl, h⟩
  case round =>
    obtain ⟨i, hi, rfl, rfl, rfl, X⟩ := hrel
    clear h
    by_cases hlt : i < bs.length
    · have hig : i < g.all.length := by have := HGL.out; omega
      have e1 := wrapId ((i : Int) + 1) (by omega) (by omega)
      have SA := ga_state X.ga ((i : Int) + 1)
      have es : Tg.stateOf g.all ((i : Int) + 1) = (g.all[i].state, 0) := by
        unfold Tg.stateOf
        rw [if_pos (by omega)]
        simp [hig]
      rw [es] at SA
      have hw := Tg.writersN_take n g.all bs i hig hlt
      have hr := Tg.readersN_take n g.all bs i hig hlt
      have bw := Tg.writersN_bound n (g.all.take i) (bs.take i)
      have br := Tg.readersN_bound n (g.all.take i) (bs.take i)
      have bl : (g.all.take i).length ≤ bs.length := by have := HGL.out; simp; omega
      have AT := fun w1 (X1 : HL N w0 w1 hb n g S (.slice ao bs.length cap) bs) => X1.at rfl i hlt
      obtain ⟨st, est⟩ : ∃ x, g.all[i].state = x := ⟨_, rfl⟩
      obtain ⟨b, eb⟩ : ∃ x, bs[i] = x := ⟨_, rfl⟩
      rw [est] at SA
      rw [est, eb] at hw hr
      simp only [eb] at AT
      obtain ⟨nw, enw⟩ : ∃ x, Tg.writersN n (g.all.take i) (bs.take i) = x := ⟨_, rfl⟩
      obtain ⟨nr, enr⟩ : ∃ x, Tg.readersN n (g.all.take i) (bs.take i) = x := ⟨_, rfl⟩
      rw [enw] at hw bw ⊢
      rw [enr] at hr br ⊢
      have HW := hid hw
      have HR := hid hr
      have e2 := wrapId (nw + 1) (by omega) (by omega)
      have e3 := wrapId (nr + 1) (by omega) (by omega)
      clear es est eb enw enr hw hr hal
      go_wp2_with fail
      refine SA.mono ?_
      rintro e w1 ⟨rfl, G1, T1⟩
      have X1 := X.same G1 T1
      obtain ⟨ab, rfl, cb⟩ := AT w1 X1
      clear SA AT X G1 T1
      by_cases h2 : st = 2
      · subst h2
        cases b with
        | true =>
          go_wp2
          go_roundg (gk - 1)
          case rel => exact ⟨i + 1, by omega, by rw [HW.out]; simp, by rw [HR.out]; simp, by simp, X1⟩
          case measure => omega
        | false =>
          go_wp2
          go_roundg (gk - 1)
          case rel => exact ⟨i + 1, by omega, by rw [HW.out]; simp, by rw [HR.out]; simp, by simp, X1⟩
          case measure => omega
      · have h2' : (st == 2) = false := by simpa using h2
        have H2 := hid h2
        clear h2
        go_wp2
        go_roundg (gk - 1)
        case rel => exact ⟨i + 1, by omega, by rw [HW.out, if_neg (fun x => H2.out x.1)]; simp, by rw [HR.out, if_neg (fun x => H2.out x.1)]; simp, by simp, X1⟩
        case measure => omega
    · have t1 : g.all.take i = g.all := List.take_of_length_le (by have := HGL.out; omega)
      have t2 : bs.take i = bs := List.take_of_length_le (by omega)
      rw [t1, t2]
      generalize Tg.writersN n g.all bs = nw at hal
      generalize Tg.readersN n g.all bs = nr at hal
      clear t1 t2
      rcases hal with ⟨rfl, y⟩ | ⟨rfl, rfl⟩
      · have d1 : decide (nr ≤ n) = true := by simpa using y
        go_wp2
        go_ret
        exact ⟨rfl, X⟩
      · go_wp2
        go_ret
        exact ⟨rfl, X⟩
end

end Go.Proofs.Ytekjgjhhjlcoaaa
