import Derived.Test.YtekjgjhhjlcoaaaPrgB
import Derived.Test.YtekjgjhhjlcoaaaRefF
import Derived.Test.YtekjgjhhjlcoaaaModQ
namespace Go.Proofs.Ytekjgjhhjlcoaaa
open Go.RowKit

def ivs (l : List Int) : List Value := l.map (Value.int .i64)
theorem ivs_length (l : List Int) : (ivs l).length = l.length := by simp [ivs]
theorem ivs_append (a b : List Int) : ivs (a ++ b) = ivs a ++ ivs b := by simp [ivs]
theorem ivs_at (l : List Int) (k : Nat) (hk : k < l.length) : (ivs l)[k]? = some (.int .i64 l[k]) := by simp [ivs, hk]

theorem row_form {w : World} {base : Nat} {e : TypeId} {size : Nat} {v : Value} {n : Nat} {xs : List Value} (h : w.ownsRow base e size v n xs) : ∃ ao cap, v = .slice ao n cap := by
  rcases h.2 with ⟨rfl, h0⟩ | ⟨g, cap, cur, rfl, _⟩
  · exact ⟨none, 0, by rw [h0]⟩
  · exact ⟨_, cap, rfl⟩

theorem Ints.of_row {w : World} {v : Value} {l : List Int} (h : w.ownsRow 0 3 1 v l.length (ivs l)) : Ints w v l := by
  rcases h.2 with ⟨rfl, hn⟩ | ⟨ab, cap, cur, rfl, _, _, hl, hm, _⟩
  · exact ⟨none, 0, by rw [hn], by omega, fun k hk => absurd hk (by omega)⟩
  · refine ⟨some ⟨ab, 0, none⟩, cap, rfl, by unfold maxLen at hm; omega, fun k hk => ⟨ab, rfl, ?_⟩⟩
    have := h.cells (g := ab) rfl k _ (ivs_at l k hk)
    rw [Addr.add_lit] at this
    simpa using this

theorem Try.infoInt : (Try.prog.info? 3).map (fun i => (i.zero, i.size, i.bytes)) = some (some (.int .i64 0), 1, 8) := by kernel_rfl

/-- A list that has come to be in new memory. -/
def NewRow (w : World) (v : Value) : Prop := ∀ k, v.ownBlock = some k → w.heap.size ≤ k

theorem NewRow.moved {w w1 : World} {v v' : Value} (h : NewRow w v) (hs : w.heap.size ≤ w1.heap.size) (hm : Moved w1 v v') : NewRow w v' := by
  intro k hk
  rcases hm with e | ⟨j, e, hj⟩
  · exact h k (by rw [← e]; exact hk)
  · rw [e] at hk; simp at hk; omega

attribute [local go_sem] alloc_drewN setCell_drewN

set_option maxHeartbeats 1000000 in
theorem rqueue_any (b : Nat) (g : Tg.Gt) (v : Value) (w : World) (h : RG w b g v) (hn : g.all.length ≤ 4398046511104) :
    Calls Try.prog 72 #[.pointer (some ⟨b, 0, none⟩)] w fun e w' =>
      ∃ v', e = .returned v' ∧ w'.ownsRow 0 3 1 v' (Tg.queue g.pass g.all).length (ivs (Tg.queue g.pass g.all)) ∧ Tch (fun _ => False) w w' ∧ NewRow w v' := by
  obtain ⟨i0, hi, hz0, hz1, hz2⟩ := info_parts Try.infoInt
  have HI : Hid (Try.prog.info? 3 = some i0 ∧ i0.zero = some (.int .i64 0) ∧ i0.size = 1 ∧ i0.bytes = 8) := hid ⟨hi, hz0, hz1, hz2⟩
  clear hi hz0 hz1 hz2
  have hle := Tg.restN_le [] 0 g.all
  go_enter Try.func72, Try.ntmps72
  go_wp2
  go_loopg [3] (Tg.restN [] 0 g.all) (fun r lv wr => ∃ but, Tg.restN but 0 g.all = r ∧ Tg.queue g.pass g.all = Tg.queueFrom g.pass g.all r but ∧ but.length + r ≤ g.all.length ∧ wr.ownsRow 0 3 1 lv but.length (ivs but) ∧ Tch (fun _ => False) w wr ∧ NewRow w lv)
  case atStart => exact ⟨[], rfl, rfl, by simpa using hle, World.ownsRow_nil _ _ _ _, Tch.refl _ _, fun k hk => by simp [Value.ownBlock] at hk⟩
  case round =>
    obtain ⟨but, hr, hq, hl, hown, ht, hnew⟩ := hrel
    have HR := hid hr
    have HQ := hid hq
    clear hr hq
    have hR : RG wr b g v := h.tch ht fun _ _ x => x
    have hI := Ints.of_row hown
    obtain ⟨ao, cap, rfl, _⟩ := hI.form
    have HT := rturn_any b g v _ but wr hR hI hn
    by_cases h0 : Tg.turnBut g.pass but g.all = 0
    · rw [h0] at HT
      go_wp2_with (go_at_call 90; refine HT.mono ?_; rintro e w' ⟨rfl, n, rfl⟩)
      go_ret
      refine ⟨_, rfl, ?_, ht.drewN _, hnew⟩
      rw [HQ.out, Tg.queueFrom_stop _ _ _ _ h0]
      exact hown
    · obtain ⟨k, hk⟩ : ∃ k, Tg.turnBut g.pass but g.all = k + 1 := ⟨Tg.turnBut g.pass but g.all - 1, by omega⟩
      rw [hk] at HT
      have HK := hid hk
      clear hk h0
      go_wp2_with (first | (go_at_call 90; refine HT.mono ?_; rintro e w' ⟨rfl, n, rfl⟩) | (at_builtin; refine wpList_append_own2 rfl (.tmp 11) (.tmp 13) 40 rfl 3 i0 (.int .i64 0) 1 8 Try.underlying40 HI.out.1 HI.out.2.1 HI.out.2.2.1 HI.out.2.2.2 rfl (by decide) (.slice ao but.length cap) but.length (ivs but) rfl ?c1 ⟨wr.heap.size, 0, none⟩ 1 1 [.int .i64 ((k : Int) + 1)] rfl rfl ?c2 ?c3 ?c4 ?c5 ?_) | fail)
      case c1 =>
        have hkeep : ∀ k', (Value.slice ao but.length cap).ownBlock = some k' → ((wr.alloc (.cells #[.int .i64 ((k : Int) + 1)] 3)).drewN n).heap[k']? = wr.heap[k']? := fun k' hk' => Below.heap_alloc _ _ _ (hown.lt k' hk').2
        exact ownsRow_keep hown hkeep
      case c2 =>
        intro j u hj
        rw [Addr.add_lit, World.cell?_drewN, World.cell?_alloc_at _ _ _ _ (by simp)]
        cases j with
        | zero => simpa using hj
        | succ j => simp at hj
      case c3 => intro u hu; simp at hu; subst hu; rfl
      case c4 => unfold maxLen; omega
      case c5 => omega
      intro lv' w3 hown' hgrow hmv
      obtain ⟨q1, q2⟩ := Tg.queueFrom_go g.pass g.all but k HK.out
      have ht3 : Tch (fun _ => False) w w3 := Tch.grown ((ht.alloc _).drewN n) hgrow (fun k' hk' => Or.inr (hnew k' hk'))
      have hnew' := hnew.moved (by have := ht.size; simp; omega) hmv
      obtain ⟨ab', cap', rfl⟩ := ownsRow_form hown' (by omega)
      go_wp2
      go_roundg (gk - 1)
      case rel =>
        have e := HR.out
        refine ⟨but ++ [(k : Int) + 1], by omega, ?_, by simp; omega, ?_, ht3, hnew'⟩
        · rw [HQ.out, ← e, q1]
          congr 1
          omega
        · simpa [ivs_append, ivs] using hown'
      case measure => have e := HR.out; omega
end Go.Proofs.Ytekjgjhhjlcoaaa
