import Derived.Test.YtekjgjhhjlcoaaaKeepO
import Derived.Deep.RegionWith
namespace Go.Proofs.Ytekjgjhhjlcoaaa
open Go.RowKit Go.Conc

theorem kchange_time (g : Tg.Gt) (n s s' : Int) : (Tg.change g n s s').1.time = g.time := by
  unfold Tg.change
  split
  · split <;> rfl
  · rfl

section
variable {N : Nat} {w0 w : World} {hb : Nat} {n : Int} {g : Tg.Gt} {S : Nat → Prop} {bv : Value} {bs : List Bool}
theorem HL.drew (h : HL N w0 w hb n g S bv bs) : HL N w0 w.drew hb n g S bv bs := h.grow (Tch.refl _ _).drew
end

attribute [local go_sem] alloc_drewN setCell_drewN

set_option maxRecDepth 20000 in
set_option maxHeartbeats 8000000 in
theorem alone_law (H : GateHall) (readers pass : Int) (hr : I64 readers) (hp : I64 pass) (sv : Value) (ls : List (Int × Int × Int × Int)) (w : World) (A : Acts w w.heap.size sv ls) :
    Calls Try.prog 11 #[.int .i64 readers, .int .i64 pass, sv] w fun e w' => e = .returned (.bool true) ∧ Below w.heap.size w w' := by
  have P1 := kpick_any readers 20 (by omega) (by omega) hr.1 hr.2
  have P2 := kpick_any pass 21 (by omega) (by omega) hp.1 hp.2
  have l1 := pk_lt readers 20 (by omega)
  have l2 := pk_lt pass 21 (by omega)
  obtain ⟨ao, cap, rfl, hn, hcells⟩ := A.form
  generalize pk readers 20 = ro at P1 l1
  generalize pk pass 21 = pa at P2 l2
  obtain ⟨n, en⟩ : ∃ n : Int, 2 + (ro : Int) = n := ⟨_, rfl⟩
  have e0 : IntKind.i64.wrap (2 + (ro : Int)) = n := by rw [wrapId _ (by omega) (by omega)]; exact en
  have hn2 : 2 ≤ n := by omega
  have hn3 : n ≤ 100 := by omega
  have NH := ga_newHall H n (pa : Int) ⟨by omega, by omega⟩ ⟨by omega, by omega⟩ w
  obtain ⟨i0, hi0, hz0, hz1, hz2⟩ := info_parts Try.infoBool
  have HI : Hid (Try.prog.info? 4 = some i0 ∧ i0.zero = some (.bool false) ∧ i0.size = 1 ∧ i0.bytes = 1) := hid ⟨hi0, hz0, hz1, hz2⟩
  clear A hr hp en hi0 hz0 hz1 hz2
  go_enter Try.func11, Try.ntmps11
  go_wp2_with (first | (go_at_call_of 14 (Value.int .i64 20); refine (P1 _).mono ?_; rintro e w' ⟨rfl, rfl⟩) | (go_at_call_of 14 (Value.int .i64 21); refine (P2 _).mono ?_; rintro e w' ⟨rfl, rfl⟩) | (go_at_call 26; refine NH.mono ?_; rintro e w1 ⟨hb, S1, rfl, G1, T1, hs1⟩) | fail)
  have X0 : HL w'.heap.size w' w1 hb n (Tg.fresh n (pa : Int)) S1 (.slice none 0 0) [] :=
    ⟨G1, ⟨rfl, rfl, fun k hk => by simp [Tg.fresh] at hk, by simp [Tg.fresh, Tg.held]; omega⟩, World.ownsRow_nil _ _ _ _, fun k hk => by simp [Value.ownBlock] at hk, fun k hk => by simp [Value.ownBlock] at hk, hs1, ⟨T1.os, T1.tape, T1.output, T1.size, fun k hk => T1.block k hk (fun x => x)⟩, T1.size⟩
  clear G1 T1 hs1 NH P1 P2
  go_loopg [10, 11] ls.length (fun r bv iv wr => ∃ i g S bv' bs, i + r = ls.length ∧ bv = bv' ∧ iv = .int .i64 (i : Int) ∧ HL w'.heap.size w' wr hb n g S bv' bs ∧ bs.length ≤ i ∧ g.time ≤ i)
  case atStart => exact ⟨0, _, _, _, _, by omega, rfl, rfl, X0, by simp, by simp [Tg.fresh]⟩
  case round =>
    obtain ⟨i, g, S, bv, bs, hi, rfl, rfl, X, hbl, htm⟩ := hrel
    clear X0
    obtain ⟨bo, bcap, rfl⟩ := X.form
    have hgl := X.hl.len
    by_cases hlt : i < ls.length
    · obtain ⟨ab, off, hab, rfl, q0, q1, q2, q3, b0, b1, b2, b3⟩ := hcells i hlt
      rw [← below_cellK X.bel hab] at q0 q1 q2 q3
      have habs : ab < wr.heap.size := by have := X.size; omega
      obtain ⟨x, ex⟩ : ∃ x, ls[i].1 = x := ⟨_, rfl⟩
      obtain ⟨a, ea⟩ : ∃ x, ls[i].2.1 = x := ⟨_, rfl⟩
      obtain ⟨b, eb⟩ : ∃ x, ls[i].2.2.1 = x := ⟨_, rfl⟩
      obtain ⟨c, ec⟩ : ∃ x, ls[i].2.2.2 = x := ⟨_, rfl⟩
      rw [ex] at q0 b0
      rw [ea] at q1 b1
      rw [eb] at q2
      rw [ec] at q3 b3
      clear ex ea eb ec b2 hcells
      have PX := kpick_any x 6 (by omega) (by omega) b0.1 b0.2
      have PC := kpick_any c 6 (by omega) (by omega) b3.1 b3.2
      have PA := fun w => kpick_any a (bs.length + 1) (by omega) (by omega) b1.1 b1.2 w
      have lx := pk_lt x 6 (by omega)
      have lc := pk_lt c 6 (by omega)
      have la := pk_lt a (bs.length + 1) (by omega)
      generalize pk x 6 = rx at PX lx
      generalize pk c 6 = rc at PC lc
      generalize pk a (bs.length + 1) = ra at PA la
      simp only [Int.natCast_add, Int.cast_ofNat_Int] at PA
      obtain ⟨wv, ewv⟩ : ∃ wv : Int, (rc : Int) - 1 = wv := ⟨_, rfl⟩
      have e2 : IntKind.i64.wrap ((rc : Int) - 1) = wv := by rw [wrapId _ (by omega) (by omega)]; exact ewv
      have hwv : -1 ≤ wv ∧ wv ≤ 5 := by omega
      have e1 := wrapId ((i : Int) + 1) (by omega) (by omega)
      have e3 := wrapId ((bs.length : Int) + 1) (by omega) (by omega)
      have e4 := wrapId (1 + (ra : Int)) (by omega) (by omega)
      have X1 := X.grow (w' := wr.alloc (.cells #[.int .i64 x, .int .i64 a, .int .i64 b, .int .i64 c] 32)) ((Tch.refl _ _).alloc _)
      clear ewv lc b0 b1 b3
      have hrx : (rx = 0 ∨ rx = 1) ∨ rx = 2 ∨ (rx = 3 ∨ rx = 4) ∨ rx = 5 := by omega
      clear lx
      rcases hrx with hrx | hrx | hrx | hrx
      · rcases hrx with rfl | rfl
        all_goals
          have hk0 : Tg.askErr 1 1 wv = 0 := by unfold Tg.askErr; rw [if_neg (by omega), if_neg (by omega), if_neg (by omega)]
          have hask : Tg.ask g 1 1 wv = (Tg.asked g 1 1 wv, (g.all.length : Int) + 1, ((Tg.asked g 1 1 wv).all.getD g.all.length ⟨0, 0, 0, 0, 0⟩).state, 0) := by unfold Tg.ask; rw [if_pos hk0]
          have RD := ga_read H X1.ga wv (by omega) (by omega)
          have HHL := X.hl.asked false 1 1 wv (by simp)
          rw [hask, hgl] at RD
          obtain ⟨st, est⟩ : ∃ st, ((Tg.asked g 1 1 wv).all.getD bs.length ⟨0, 0, 0, 0, 0⟩).state = st := ⟨_, rfl⟩
          have hg2l : (Tg.asked g 1 1 wv).all.length = bs.length + 1 := by have := HHL.len; simpa using this
          have hg2t : (Tg.asked g 1 1 wv).time = g.time := rfl
          obtain ⟨g2, eg2⟩ : ∃ g2, Tg.asked g 1 1 wv = g2 := ⟨_, rfl⟩
          rw [est] at RD
          rw [eg2] at RD HHL hg2l hg2t
          have H2T := hid hg2t
          have d1 : ((bs.length : Int) + 1 != 0) = true := by rw [bne_iff_ne]; omega
          clear hask est eg2 hg2l hg2t hk0 hgl
          go_wp2_with (first | (go_at_call_of 14 (Value.int .i64 c); refine (PC _).mono ?_; rintro e w' ⟨rfl, rfl⟩) | (go_at_call_of 14 (Value.int .i64 x); refine (PX _).mono ?_; rintro e w' ⟨rfl, rfl⟩) | fail)
          refine RD.mono ?_
          rintro e w2 ⟨rfl, G2⟩
          have hz2 : wr.heap.size ≤ w2.heap.size := by obtain ⟨_, _, t, _⟩ := G2; have := t.size; simp at this; omega
          have brow : (w2.alloc (.cells #[.bool false] 4)).ownsRow 0 4 1 (.slice bo bs.length bcap) bs.length (bvs bs) := by
            obtain ⟨_, _, t, _⟩ := G2
            exact ownsRow_keep X1.row fun k hk => (Below.heap_alloc _ _ _ (by have := (X1.row.lt k hk).2; have := t.size; omega)).trans (t.block k (X1.row.lt k hk).2 (X1.bS k hk))
          clear RD PC PX
          go_wp2_with (first | (at_builtin; refine wpList_append_own2 rfl (.tmp 80) (.tmp 81) 54 rfl 4 i0 (.bool false) 1 1 Try.underlying54 HI.out.1 HI.out.2.1 HI.out.2.2.1 HI.out.2.2.2 rfl (by decide) (.slice bo bs.length bcap) bs.length (bvs bs) rfl ?c1 ⟨w2.heap.size, 0, none⟩ 1 1 [.bool false] rfl rfl ?c2 ?c3 ?c4 ?c5 ?_) | fail)
          case c1 => exact brow
          case c2 =>
            intro j u hj
            rw [Addr.add_lit, World.cell?_alloc_at _ _ _ _ (by simp)]
            cases j with
            | zero => simpa using hj
            | succ j => simp at hj
          case c3 => intro u hu; simp at hu; subst hu; rfl
          case c4 => unfold maxLen; omega
          case c5 => omega
          intro bv' w3 hown hgrow hmv
          obtain ⟨S3, X3⟩ := X1.asked false G2 HHL hown hgrow hmv
          obtain ⟨ub, ucap', rfl⟩ := ownsRow_form hown (by omega)
          clear G2 hown hgrow hmv brow X X1
          have AL := alone_any X3 hn2 (by simp; omega)
          go_wp2_with fail
          refine AL.mono ?_
          rintro e w5 ⟨rfl, X5⟩
          clear AL
          go_wp2
          go_roundg (gk - 1)
          case rel => exact ⟨i + 1, _, _, _, _, by omega, rfl, by simp, X5, by simp; omega, by rw [H2T.out]; omega⟩
          case measure => omega
      · subst hrx
        have hk0 : Tg.askErr n 0 wv = 0 := by unfold Tg.askErr; rw [if_neg (by omega), if_neg (by omega), if_neg (by omega)]
        have hask : Tg.ask g n 0 wv = (Tg.asked g n 0 wv, (g.all.length : Int) + 1, ((Tg.asked g n 0 wv).all.getD g.all.length ⟨0, 0, 0, 0, 0⟩).state, 0) := by unfold Tg.ask; rw [if_pos hk0]
        have RD := ga_write H X1.ga wv (by omega) (by omega)
        have HHL := X.hl.asked true n 0 wv (by simp)
        rw [hask, hgl] at RD
        obtain ⟨st, est⟩ : ∃ st, ((Tg.asked g n 0 wv).all.getD bs.length ⟨0, 0, 0, 0, 0⟩).state = st := ⟨_, rfl⟩
        have hg2l : (Tg.asked g n 0 wv).all.length = bs.length + 1 := by have := HHL.len; simpa using this
        have hg2t : (Tg.asked g n 0 wv).time = g.time := rfl
        obtain ⟨g2, eg2⟩ : ∃ g2, Tg.asked g n 0 wv = g2 := ⟨_, rfl⟩
        rw [est] at RD
        rw [eg2] at RD HHL hg2l hg2t
        have H2T := hid hg2t
        have d1 : ((bs.length : Int) + 1 != 0) = true := by rw [bne_iff_ne]; omega
        clear hask est eg2 hg2l hg2t hk0 hgl
        go_wp2_with (first | (go_at_call_of 14 (Value.int .i64 c); refine (PC _).mono ?_; rintro e w' ⟨rfl, rfl⟩) | (go_at_call_of 14 (Value.int .i64 x); refine (PX _).mono ?_; rintro e w' ⟨rfl, rfl⟩) | fail)
        refine RD.mono ?_
        rintro e w2 ⟨rfl, G2⟩
        have hz2 : wr.heap.size ≤ w2.heap.size := by obtain ⟨_, _, t, _⟩ := G2; have := t.size; simp at this; omega
        have brow : (w2.alloc (.cells #[.bool true] 4)).ownsRow 0 4 1 (.slice bo bs.length bcap) bs.length (bvs bs) := by
          obtain ⟨_, _, t, _⟩ := G2
          exact ownsRow_keep X1.row fun k hk => (Below.heap_alloc _ _ _ (by have := (X1.row.lt k hk).2; have := t.size; omega)).trans (t.block k (X1.row.lt k hk).2 (X1.bS k hk))
        clear RD PC PX
        go_wp2_with (first | (at_builtin; refine wpList_append_own2 rfl (.tmp 92) (.tmp 93) 54 rfl 4 i0 (.bool false) 1 1 Try.underlying54 HI.out.1 HI.out.2.1 HI.out.2.2.1 HI.out.2.2.2 rfl (by decide) (.slice bo bs.length bcap) bs.length (bvs bs) rfl ?c1 ⟨w2.heap.size, 0, none⟩ 1 1 [.bool true] rfl rfl ?c2 ?c3 ?c4 ?c5 ?_) | fail)
        case c1 => exact brow
        case c2 =>
          intro j u hj
          rw [Addr.add_lit, World.cell?_alloc_at _ _ _ _ (by simp)]
          cases j with
          | zero => simpa using hj
          | succ j => simp at hj
        case c3 => intro u hu; simp at hu; subst hu; rfl
        case c4 => unfold maxLen; omega
        case c5 => omega
        intro bv' w3 hown hgrow hmv
        obtain ⟨S3, X3⟩ := X1.asked true G2 HHL hown hgrow hmv
        obtain ⟨ub, ucap', rfl⟩ := ownsRow_form hown (by omega)
        clear G2 hown hgrow hmv brow X X1
        have AL := alone_any X3 hn2 (by simp; omega)
        go_wp2_with fail
        refine AL.mono ?_
        rintro e w5 ⟨rfl, X5⟩
        clear AL
        go_wp2
        go_roundg (gk - 1)
        case rel => exact ⟨i + 1, _, _, _, _, by omega, rfl, by simp, X5, by simp; omega, by rw [H2T.out]; omega⟩
        case measure => omega
      · rcases hrx with rfl | rfl
        all_goals
          have GV := ga_give X1.drew.ga (1 + (ra : Int)) (by omega)
          have HHL := X.hl.changed X.ga.ok (1 + (ra : Int)) 2 6 (by omega)
          have hct := kchange_time g (1 + (ra : Int)) 2 6
          obtain ⟨g2, eg2⟩ : ∃ g2, (Tg.change g (1 + (ra : Int)) 2 6).1 = g2 := ⟨_, rfl⟩
          obtain ⟨er, eer⟩ : ∃ er, (Tg.change g (1 + (ra : Int)) 2 6).2 = er := ⟨_, rfl⟩
          rw [eg2, eer] at GV
          rw [eg2] at HHL hct
          have H2T := hid hct
          clear eg2 eer hct hgl
          go_wp2_with (first | (go_at_call_of 14 (Value.int .i64 c); refine (PC _).mono ?_; rintro e w' ⟨rfl, rfl⟩) | (go_at_call_of 14 (Value.int .i64 x); refine (PX _).mono ?_; rintro e w' ⟨rfl, rfl⟩) | fail)
          go_region_with (first | (go_at_call 14; refine (PA _).mono ?_; rintro e w' ⟨rfl, rfl⟩) | (go_at_call 29; refine GV.mono ?_; rintro e w2 ⟨rfl, G2⟩; obtain ⟨S3, X3⟩ := X1.drew.gs G2 HHL) | fail)
          all_goals
            clear GV PC PX PA G2 X X1
            have AL := alone_any X3 hn2 (by omega)
            go_wp2_with fail
            refine AL.mono ?_
            rintro e w5 ⟨rfl, X5⟩
            clear AL
            go_wp2
            go_roundg (gk - 1)
            case rel => exact ⟨i + 1, _, _, _, _, by omega, rfl, by simp, X5, by omega, by rw [H2T.out]; omega⟩
            case measure => omega
      · subst hrx
        have GV := ga_cancel X1.drew.ga (1 + (ra : Int)) (by omega)
        have HHL := X.hl.changed X.ga.ok (1 + (ra : Int)) 1 5 (by omega)
        have hct := kchange_time g (1 + (ra : Int)) 1 5
        have hcl := Tg.change_len g (1 + (ra : Int)) 1 5
        obtain ⟨g2, eg2⟩ : ∃ g2, (Tg.change g (1 + (ra : Int)) 1 5).1 = g2 := ⟨_, rfl⟩
        obtain ⟨er, eer⟩ : ∃ er, (Tg.change g (1 + (ra : Int)) 1 5).2 = er := ⟨_, rfl⟩
        rw [eg2, eer] at GV
        rw [eg2] at HHL hct hcl
        have H2T := hid hct
        have HCL := hid (hcl.trans hgl)
        clear eg2 eer hct hgl hcl
        go_wp2_with (first | (go_at_call_of 14 (Value.int .i64 c); refine (PC _).mono ?_; rintro e w' ⟨rfl, rfl⟩) | (go_at_call_of 14 (Value.int .i64 x); refine (PX _).mono ?_; rintro e w' ⟨rfl, rfl⟩) | fail)
        go_region_with (first | (go_at_call 14; refine (PA _).mono ?_; rintro e w' ⟨rfl, rfl⟩) | (go_at_call 30; refine GV.mono ?_; rintro e w2 ⟨rfl, G2⟩; obtain ⟨S3, X3⟩ := X1.drew.gs G2 HHL) | fail)
        all_goals
          clear GV PC PX PA G2 X X1
          have TK := ga_tick X3.ga (by rw [HCL.out]; omega) (by rw [H2T.out]; omega)
          go_wp2_with fail
          refine TK.mono ?_
          rintro e w4 ⟨rfl, G4⟩
          obtain ⟨S4, X4⟩ := X3.gs G4 HHL.ticked
          clear TK G4 X3
          have AL := alone_any X4 hn2 (by omega)
          go_wp2_with fail
          refine AL.mono ?_
          rintro e w5 ⟨rfl, X5⟩
          clear AL
          go_wp2
          go_roundg (gk - 1)
          case rel => exact ⟨i + 1, _, _, _, _, by omega, rfl, by simp, X5, by omega, by show g2.time + 1 ≤ _; rw [H2T.out]; omega⟩
          case measure => omega
    · have hbl' : bs.length ≤ 4398046510976 := by omega
      have htm' : g.time ≤ 4398046510976 := by omega
      clear hcells hgl
      go_wp2
      go_loopg [17] bs.length (fun r jv w2 => ∃ j g S, j + r = bs.length ∧ jv = .int .i64 (j : Int) ∧ HL w'.heap.size w' w2 hb n g S (.slice bo bs.length bcap) bs ∧ Tg.NoWait j g.all ∧ g.time ≤ 4398046510976)
      case atStart => exact ⟨0, g, S, by omega, rfl, X, fun k hk => absurd hk (by omega), htm'⟩
      case round =>
        obtain ⟨j, g1, S1', hj, rfl, Y, NW, ht1⟩ := hrel
        clear X
        have hgl1 := Y.hl.len
        by_cases hjl : j < bs.length
        · have CN := ga_cancel Y.ga ((j : Int) + 1) (by omega)
          have HHL := Y.hl.changed Y.ga.ok ((j : Int) + 1) 1 5 (by omega)
          have NW2 := NW.cancel (g := g1) (by omega)
          have hct := kchange_time g1 ((j : Int) + 1) 1 5
          obtain ⟨g2, eg2⟩ : ∃ g2, (Tg.change g1 ((j : Int) + 1) 1 5).1 = g2 := ⟨_, rfl⟩
          obtain ⟨er, eer⟩ : ∃ er, (Tg.change g1 ((j : Int) + 1) 1 5).2 = er := ⟨_, rfl⟩
          rw [eg2, eer] at CN
          rw [eg2] at HHL hct NW2
          have H2T := hid hct
          have e5 := wrapId ((j : Int) + 1) (by omega) (by omega)
          clear eg2 eer hct hgl1
          go_wp2_with fail
          refine CN.mono ?_
          rintro e w3 ⟨rfl, G3⟩
          obtain ⟨S3, Y3⟩ := Y.gs G3 HHL
          clear CN G3 Y
          go_wp2
          go_roundg (gk - 1)
          case rel => exact ⟨j + 1, g2, S3, by omega, by simp, Y3, NW2, by rw [H2T.out]; exact ht1⟩
          case measure => omega
        · have NH0 : Tg.NoHold 0 g1.all := ⟨fun k hk => NW k (by omega) hk, fun k hk => absurd hk (by omega)⟩
          clear NW hgl1
          go_wp2
          go_loopg [18] bs.length (fun r jv w2 => ∃ j g S, j + r = bs.length ∧ jv = .int .i64 (j : Int) ∧ HL w'.heap.size w' w2 hb n g S (.slice bo bs.length bcap) bs ∧ Tg.NoHold j g.all ∧ g.time ≤ 4398046510976)
          case atStart => exact ⟨0, g1, S1', by omega, rfl, Y, NH0, ht1⟩
          case round =>
            obtain ⟨j, g2, S2', hj, rfl, Z, NH, ht2⟩ := hrel
            clear Y NH0
            have hgl2 := Z.hl.len
            by_cases hjl : j < bs.length
            · have CN := ga_give Z.ga ((j : Int) + 1) (by omega)
              have HHL := Z.hl.changed Z.ga.ok ((j : Int) + 1) 2 6 (by omega)
              have NH2 := NH.give (g := g2) (by omega)
              have hct := kchange_time g2 ((j : Int) + 1) 2 6
              obtain ⟨g3, eg3⟩ : ∃ g3, (Tg.change g2 ((j : Int) + 1) 2 6).1 = g3 := ⟨_, rfl⟩
              obtain ⟨er, eer⟩ : ∃ er, (Tg.change g2 ((j : Int) + 1) 2 6).2 = er := ⟨_, rfl⟩
              rw [eg3, eer] at CN
              rw [eg3] at HHL hct NH2
              have H2T := hid hct
              have e5 := wrapId ((j : Int) + 1) (by omega) (by omega)
              clear eg3 eer hct hgl2
              go_wp2_with fail
              refine CN.mono ?_
              rintro e w3 ⟨rfl, G3⟩
              obtain ⟨S3, Z3⟩ := Z.gs G3 HHL
              clear CN G3 Z
              go_wp2
              go_roundg (gk - 1)
              case rel => exact ⟨j + 1, g3, S3, by omega, by simp, Z3, NH2, by rw [H2T.out]; exact ht2⟩
              case measure => omega
            · have NHl : Tg.NoHold g2.all.length g2.all := ⟨NH.wait, fun k hk hk' => NH.hold k (by omega) hk'⟩
              obtain ⟨a1, a2, a3⟩ := NHl.write Z.hl ⟨by omega, by omega⟩
              have WR := ga_write H Z.ga 0 (by omega) (by omega)
              rw [a1, a2] at WR
              obtain ⟨k1, ek1⟩ : ∃ x, (Tg.ask g2 n 0 0).2.1 = x := ⟨_, rfl⟩
              obtain ⟨g3, eg3⟩ : ∃ g3, (Tg.ask g2 n 0 0).1 = g3 := ⟨_, rfl⟩
              rw [ek1, eg3] at WR
              rw [eg3] at a3
              have A3 := hid a3
              clear ek1 eg3 a1 a2 a3 hgl2 NH NHl
              go_wp2_with fail
              refine WR.mono ?_
              rintro e w3 ⟨rfl, G3⟩
              have hbel : Below w'.heap.size w' w3 := by
                obtain ⟨_, _, t, _⟩ := G3
                exact Z.bel.trans ⟨t.os, t.tape, t.output, t.size, fun k hk => t.block k (by have := Z.size; omega) fun x => by have := Z.slow k x; omega⟩
              have hlow : ∀ S' : Nat → Prop, (∀ k, S' k → S2' k ∨ wr.heap.size ≤ k) → ∀ k, S' k → w'.heap.size ≤ k := fun S' hs k hk => by
                rcases hs k hk with y | y
                · exact Z.slow k y
                · have := Z.size; omega
              obtain ⟨S3, GA3, T3, s3⟩ := G3
              have HA := ga_held GA3
              rw [A3.out] at HA
              have hlo := hlow S3 s3
              have hz3 : w'.heap.size ≤ w3.heap.size := by have := Z.size; have := T3.size; omega
              clear WR hlow s3 T3 Z
              go_wp2_with (first | (go_at_call 20; refine HA.mono ?_; rintro e w4 ⟨rfl, GA4, T4⟩) | fail)
              go_ret
              exact ⟨rfl, hbel.trans ⟨T4.os, T4.tape, T4.output, T4.size, fun k hk => T4.block k (by omega) fun x => by have := hlo k x; omega⟩⟩

end Go.Proofs.Ytekjgjhhjlcoaaa
