import Derived.Test.YtekjgjhhjlcoaaaLawD
import Derived.Test.YtekjgjhhjlcoaaaPrgS
namespace Go.Proofs.Ytekjgjhhjlcoaaa
open Go.RowKit Go.Conc

section
variable {N B : Nat} {w0 w w' : World} {wb : Nat} {lv : Value} {ps : List Pr} {x : Ls} {p : Pr}

attribute [local go_sem] alloc_drewN setCell_drewN

set_option maxRecDepth 20000 in
set_option maxHeartbeats 1000000 in
theorem asks_hall (H : GateHall) (h : PrOk N B w p) (hN : N ≤ w.heap.size) (kd e0 a b c : Int) (hk : kd = 11 ∨ kd = 12) (hB : B + 1 ≤ 3518437208883) :
    Calls Try.prog 57 #[pv p, .agg #[.int .i64 kd, .int .i64 e0, .int .i64 a, .int .i64 b, .int .i64 c]] w fun e w' => e = .returned (.bool true) ∧ ∃ p', Chg N (B + 1) w p w' p' := by
  have h1 := (h.alloc (.cells #[.pointer (px p), .pointer (phl p), .pointer (some ⟨p.b, 0, none⟩), .int .i64 (pnm p)] 100)).alloc (.cells #[.int .i64 kd, .int .i64 e0, .int .i64 a, .int .i64 b, .int .i64 c] 79)
  have hl := h.len
  have htm := h.time
  unfold pv
  cases hrd : p.rd with
  | none =>
    rw [px_none hrd, phl_none hrd] at h1 ⊢
    clear hrd H
    have k2 : (kd == 2) = false := by simp; omega
    go_enter Try.func57, Try.ntmps57
    go_wp2
    go_ret
    exact ⟨rfl, p, Chg.grow (((Tch.refl _ _).alloc _).alloc _) ⟨rfl, rfl, rfl, Tch.refl _ _, h1.mono (by omega), fun _ hk => Or.inl hk⟩⟩
  | some n =>
    have hpg := h1.pg
    rw [px_some hrd, phl_some hrd, pnm_some hrd] at h1 hpg ⊢
    rw [hrd] at hpg
    have HRD := hid hrd
    clear hrd
    have fin : ∀ (A b' : Int) {w1 w2 : World} {rv' : Value} {tv' : Value} {rs' : List Rc} {ns' : List Nd} (L : Left1 (some n) ((w.alloc (.cells #[.pointer none, .pointer (some ⟨p.gb, 0, none⟩), .pointer (some ⟨p.b, 0, none⟩), .int .i64 n] 100)).alloc (.cells #[.int .i64 kd, .int .i64 e0, .int .i64 a, .int .i64 b, .int .i64 c] 79)) p.gb p.tv p.rs p.ns w1 (Tg.ask p.g A b' a).1 tv' rs' ns')
        (hr : RG w2 p.b (Tg.ask p.g A b' a).1 rv') (ht : Tch (RGs p.b p.rv) w1 w2) (hm : Moved w1 p.rv rv'), ∃ p', Chg N (B + 1) w p w2 p' := by
      intro A b' w1 w2 rv' tv' rs' ns' L hr ht hm
      rw [← HRD.out] at L
      refine ⟨_, Chg.grow (((Tch.refl _ _).alloc _).alloc _) (h1.both (by simp; omega) L hr ht hm (Tg.ask_ok _ _ _ _ h.ok) (ask_quiet _ h.quiet _ _ _) ?_ ?_)⟩
      · have := Tg.ask_len p.g A b' a; omega
      · rw [ask_time]; omega
    have cbx : ∀ {w1 : World}, Tch (PS p.gb p.tv p.rs p.ns) ((w.alloc (.cells #[.pointer none, .pointer (some ⟨p.gb, 0, none⟩), .pointer (some ⟨p.b, 0, none⟩), .int .i64 n] 100)).alloc (.cells #[.int .i64 kd, .int .i64 e0, .int .i64 a, .int .i64 b, .int .i64 c] 79)) w1 → w1.cell? ⟨w.heap.size, 2, none⟩ = some (.pointer (some ⟨p.b, 0, none⟩)) := by
      intro w1 ht
      rw [ht.cell (by simp; omega) (fun x => by have := h.pg.ph.lt _ x; omega), World.cell?_alloc_past _ _ _ (by simp), World.cell?_alloc_at _ _ _ _ rfl]
      rfl
    have rgx : ∀ {w1 : World}, Tch (PS p.gb p.tv p.rs p.ns) ((w.alloc (.cells #[.pointer none, .pointer (some ⟨p.gb, 0, none⟩), .pointer (some ⟨p.b, 0, none⟩), .int .i64 n] 100)).alloc (.cells #[.int .i64 kd, .int .i64 e0, .int .i64 a, .int .i64 b, .int .i64 c] 79)) w1 → RG w1 p.b p.g p.rv := fun ht => h1.rgKeep ht
    rcases hk with rfl | rfl
    · have HC := H.read hpg h.ok h.quiet a (by omega) (by omega)
      have HR0 := fun w1 (hg : RG w1 p.b p.g p.rv) => rask_any p.b p.g p.rv 1 1 a w1 hg h.ok (by omega) (by omega)
      obtain ⟨R1, hR1⟩ : ∃ x, (Tg.ask p.g 1 1 a).2.1 = x := ⟨_, rfl⟩
      obtain ⟨R2, hR2⟩ : ∃ x, (Tg.ask p.g 1 1 a).2.2.1 = x := ⟨_, rfl⟩
      obtain ⟨R3, hR3⟩ : ∃ x, (Tg.ask p.g 1 1 a).2.2.2 = x := ⟨_, rfl⟩
      rw [hR1, hR2, hR3] at HC
      simp only [hR1, hR2, hR3] at HR0
      clear hR1 hR2 hR3 H h1 hpg
      go_enter Try.func57, Try.ntmps57
      go_wp2_with fail
      refine HC.mono ?_
      rintro e w1 ⟨rfl, tv', rs', ns', L⟩
      have cb := cbx L.tch
      have HR := HR0 w1 (rgx L.tch)
      clear HC HR0 cbx rgx
      go_wp2_with (first | (go_at_call 86; refine HR.mono ?_; rintro e w2 ⟨rfl, rv', hr, ht, hm⟩) | (go_at_call 60; refine (num_any _ _).mono ?_; rintro e w3 ⟨rfl, rfl⟩))
      go_ret
      exact ⟨rfl, fin 1 1 L hr ht hm⟩
    · have HC := H.write hpg h.ok h.quiet a (by omega) (by omega)
      have HR0 := fun w1 (hg : RG w1 p.b p.g p.rv) => rask_any p.b p.g p.rv n 0 a w1 hg h.ok (by omega) (by omega)
      obtain ⟨R1, hR1⟩ : ∃ x, (Tg.ask p.g n 0 a).2.1 = x := ⟨_, rfl⟩
      obtain ⟨R2, hR2⟩ : ∃ x, (Tg.ask p.g n 0 a).2.2.1 = x := ⟨_, rfl⟩
      obtain ⟨R3, hR3⟩ : ∃ x, (Tg.ask p.g n 0 a).2.2.2 = x := ⟨_, rfl⟩
      rw [hR1, hR2, hR3] at HC
      simp only [hR1, hR2, hR3] at HR0
      clear hR1 hR2 hR3 H h1 hpg
      go_enter Try.func57, Try.ntmps57
      go_wp2_with fail
      refine HC.mono ?_
      rintro e w1 ⟨rfl, tv', rs', ns', L⟩
      have cb := cbx L.tch
      have HR := HR0 w1 (rgx L.tch)
      clear HC HR0 cbx rgx
      go_wp2_with (first | (go_at_call 86; refine HR.mono ?_; rintro e w2 ⟨rfl, rv', hr, ht, hm⟩) | (go_at_call 60; refine (num_any _ _).mono ?_; rintro e w3 ⟨rfl, rfl⟩))
      go_ret
      exact ⟨rfl, fin n 0 L hr ht hm⟩
end

end Go.Proofs.Ytekjgjhhjlcoaaa
