import Derived.Test.YtekjgjhhjlcoaaaRows
import Derived.Test.YtekjgjhhjlcoaaaKeepN
import Derived.ProofKit
import Derived.SizedLaws
import Derived.OpenShut
import Derived.Deep.Slices
namespace Go.Proofs.Ytekjgjhhjlcoaaa
open Go.ChangeShapes Go.WideShapes Go.ChangeAt Go.RowKit Go.Deep

theorem Try.ownC : ownKnob Try.prog.godebug = none := by kernel_rfl
theorem Try.laidOutC : laidOutB Try.prog = true := by kernel_rfl
theorem Try.cellsIntC : Try.prog.cellsOf 3 = 1 := by kernel_rfl
theorem Try.bytesIntC : Try.prog.bytesOf 3 = 8 := by kernel_rfl

section
variable {H : Type} {enc : TypeId × Value → H} {W : World} {base : Nat} {sp : Nat → Bool} {held : Bool}

theorem num_open {n : Nat} {cs : List Value} {y : DataW H × List MemPlace} (h : DataW.trod enc Try.prog W base sp held n 3 cs = some y) : ∃ z : Int, cs = [.int .i64 z] ∧ I64n z := by
  obtain ⟨z, e, _, w⟩ := DataW.trod_int Try.underlying3 h
  refine ⟨z, by simpa using e, ?_⟩
  simp only [Lit.wf, Bool.and_eq_true, decide_eq_true_eq] at w
  exact ⟨w.1, w.2⟩

set_option maxRecDepth 100000 in
theorem nums_open {fuel : Nat} {cs : List Value} {x : DataW H × List MemPlace} (h : DataW.trod enc Try.prog W base sp held fuel 40 cs = some x)
    (hsz : ∀ el s, x.1 = .slice el s → (el.length + s.length) * 8 ≤ 140737488351232) : ∃ sv ls, cs = [sv] ∧ Nums W W.heap.size sv ls := by
  rcases open_slice Try.underlying40 h with ⟨rfl, rfl⟩ | ⟨a, len, cap, m, n, D, Pl, rfl, hb, hl, hm, hmm, rfl, hx⟩
  · exact ⟨_, [], rfl, ⟨none, 0, rfl, by simp, fun k hk => by simp at hk⟩⟩
  · have hs := hsz _ _ rfl
    simp only [List.length_map, List.length_range] at hs
    have hlm : len ≤ m := by rw [hmm]; split <;> omega
    rw [Try.cellsIntC] at hx
    obtain ⟨f, hf⟩ := choose_lt (α := Int) (n := len) (p := fun i z => W.cells? base (a.add (i * 1)) 1 = some [.int .i64 z] ∧ I64n z) (fun i hi => by
      obtain ⟨cs', h1, h2⟩ := hx i (by omega)
      obtain ⟨z, rfl, hz⟩ := num_open h2
      exact ⟨z, h1, hz⟩)
    refine ⟨_, (List.range len).map f, rfl, ⟨some a, cap, by simp, by simp; omega, fun k hk => ?_⟩⟩
    have hk' : k < len := by simpa using hk
    obtain ⟨ab, off, spot⟩ := a
    have c0 := (World.cells?_some (hf 0 (by omega)).1).2.2 0 (by omega)
    have hspot : spot = none := by simpa [Addr.add] using World.cell?_spot c0
    subst hspot
    have ck := (World.cells?_some (hf k hk').1).2.2
    have ad : ∀ i, ((⟨ab, off, none⟩ : Addr).add (k * 1)).add i = ⟨ab, off + k + i, none⟩ := by
      intro i
      rw [add_add]
      unfold Addr.add
      split
      · simp_all
      · simp [Nat.add_assoc]
    have c0 := ck 0 (by omega)
    rw [ad] at c0
    simp only [List.getElem_map, List.getElem_range]
    exact ⟨ab, off, (by simpa [Addr.add] using World.cells?_block (hf 0 (by omega)).1 (by omega)), rfl, c0, (hf k hk').2⟩
end

set_option maxRecDepth 100000 in
theorem clock_lifted (os : Os) (started : os.Started) (H : Type) (enc : TypeId × Value → H) :
    ReturnsInHanded {} Try.checked os 10 .any (Rows.clockSpec.pre6 enc Try.prog Try.f10 Rows.clockRow.domain false) (Rows.clockSpec.post enc Try.prog Try.f10 false true false false) := by
  refine returnsInHanded_of_change_sized (C := Try.checked) Try.ownC started (by kernel_rfl) Try.func10
    (ChangeSpec.witness6 (enc := enc) (C := Try.checked) false ⟨#[], #[.slice none 0 0], []⟩ 8 (by kernel_rfl) (by kernel_rfl) (by kernel_rfl) (by kernel_rfl)) ?_
  intro W base args ds gs before hval0 hW _ hsz0 _
  have hval : ∀ (j : Nat) t v, Try.f10.params[j]? = some t → args[j]? = some v → Value.okWide Try.prog W .any base t v := hval0
  have hsz : (DataW.weightsEach Try.prog (Try.f10.params.toList ++ Rows.clockSpec.plain.varTypes Try.prog) (ds ++ gs)).all (· ≤ reachBytes) = true := hsz0
  have hW' := hW
  obtain ⟨p, q, hA0, hV, rfl, hfz, hnd⟩ := hW
  have hA : DataW.TrodAll enc Try.prog W 0 (fun _ => true) true Try.f10.params.toList args.toList ds p := hA0
  rw [Try.params10] at hA hval hsz
  obtain ⟨v0, d0, rfl, rfl, h0⟩ := trodAll_one hA
  obtain ⟨rfl, rfl⟩ := trodVars_none hV
  have h0k := h0
  obtain ⟨fuel, hf⟩ := h0
  clear hA0 hval0 hsz0
  simp only [List.append_nil] at hW'
  have hlt : ∀ x ∈ p, x.block < W.heap.size := fun x hx => by simpa using hW'.lt x hx
  obtain ⟨a0, len, cap, rfl⟩ := okWide_slice Try.underlying40 (hval 0 40 v0 rfl rfl)
  obtain ⟨sv, ls, e, A⟩ := nums_open hf (fun el s e => by
    simp at e
    subst e
    have := sized_slice hsz (j := 0) (t := 40) (e := 3) rfl rfl Try.underlying40
    rw [Try.bytesIntC] at this
    exact this)
  simp [Value.cells] at e
  subst e
  refine (clock_law _ ls W A).mono fun e W' ⟨he, hb⟩ => ?_
  subst he
  exact ⟨_, rfl, ⟨_, _, _, [], _, [], hW', trodAll_mk1 (shut_bool Try.underlying4 true), trodAll_mk1 (Below.trod Try.laidOutC (by kernel_rfl) (of_decide_eq_true (by kernel_rfl)) h0k hb hlt), rfl, hb.frame _, fun h => by cases h⟩⟩

theorem clock_holds : Rows.ClockSaid :=
  OpenClaim.holds_of_wide 10 Try.f10 rfl rfl rfl rfl rfl rfl rfl ⟨rfl, rfl, rfl, rfl, rfl⟩ rfl rfl rfl rfl rfl (by kernel_rfl) Try.func10 (by kernel_rfl)
    (of_decide_eq_true (by kernel_rfl)) (by unfold Func.isWrapper; first | (rw [if_pos (by decide +kernel)]; kernel_rfl) | (rw [if_neg (by decide +kernel)]; exact ⟨rfl, rfl⟩))
    (fun os started H enc _ => clock_lifted os started H enc)

end Go.Proofs.Ytekjgjhhjlcoaaa
