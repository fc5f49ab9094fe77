import Derived.Test.YtekjgjhhjlcoaaaRows
import Derived.Test.YtekjgjhhjlcoaaaLawF
import Derived.ProofKit
import Derived.SizedLaws
import Derived.Deep.Slices
namespace Go.Proofs.Ytekjgjhhjlcoaaa
open Go.ChangeShapes Go.WideShapes Go.ChangeAt Go.RowKit Go.Deep

theorem Try.own : ownKnob Try.prog.godebug = none := by kernel_rfl
theorem Try.laidOut : laidOutB Try.prog = true := by kernel_rfl
theorem Try.cellsInt : Try.prog.cellsOf 3 = 1 := by kernel_rfl
theorem Try.cellsStep : Try.prog.cellsOf 79 = 5 := by kernel_rfl
theorem Try.bytesStep : Try.prog.bytesOf 79 = 40 := by kernel_rfl

section
variable {H : Type} {enc : TypeId × Value → H} {W : World} {base : Nat} {sp : Nat → Bool} {held : Bool}

set_option maxRecDepth 100000 in
theorem step_open {n : Nat} {cs : List Value} {y : DataW H × List MemPlace} (h : DataW.trod enc Try.prog W base sp held n 79 cs = some y) :
    ∃ z : Int × Int × Int × Int × Int, cs = [.int .i64 z.1, .int .i64 z.2.1, .int .i64 z.2.2.1, .int .i64 z.2.2.2.1, .int .i64 z.2.2.2.2] ∧ -9223372036854775808 ≤ z.2.1 ∧ z.2.1 ≤ 9223372036854775807 := by
  obtain ⟨xs, m, _, _, hl, hx, hf⟩ := DataW.trod_struct Try.underlying79 h
  rw [Try.cellsStep] at hl
  match cs, hl with
  | [c0, c1, c2, c3, c4], _ =>
    match xs, hx with
    | [x0, x1, x2, x3, x4], _ =>
      have f0 := hf 0 _ rfl
      have f1 := hf 1 _ rfl
      have f2 := hf 2 _ rfl
      have f3 := hf 3 _ rfl
      have f4 := hf 4 _ rfl
      simp [Try.cellsInt] at f0 f1 f2 f3 f4
      obtain ⟨z0, e0, _, _⟩ := DataW.trod_int Try.underlying3 f0
      obtain ⟨z1, e1, _, w1⟩ := DataW.trod_int Try.underlying3 f1
      obtain ⟨z2, e2, _, _⟩ := DataW.trod_int Try.underlying3 f2
      obtain ⟨z3, e3, _, _⟩ := DataW.trod_int Try.underlying3 f3
      obtain ⟨z4, e4, _, _⟩ := DataW.trod_int Try.underlying3 f4
      simp at e0 e1 e2 e3 e4
      subst e0 e1 e2 e3 e4
      refine ⟨(z0, z1, z2, z3, z4), rfl, ?_⟩
      simp only [Lit.wf, Bool.and_eq_true, decide_eq_true_eq] at w1
      exact ⟨w1.1, w1.2⟩

set_option maxRecDepth 100000 in
theorem script_open {fuel : Nat} {cs : List Value} {x : DataW H × List MemPlace} (h : DataW.trod enc Try.prog W base sp held fuel 22 cs = some x)
    (N : Nat) (hN : N * 40 ≤ 140737488351232) (hsz : ∀ el s, x.1 = .slice el s → el.length + s.length ≤ N) : ∃ sv ss, cs = [sv] ∧ Script W W.heap.size sv ss ∧ ss.length ≤ N := by
  rcases open_slice Try.underlying22 h with ⟨rfl, rfl⟩ | ⟨a, len, cap, m, n, D, Pl, rfl, hb, hl, hm, hmm, rfl, hx⟩
  · exact ⟨_, [], rfl, ⟨none, 0, rfl, by simp, fun k hk => by simp at hk⟩, by simp⟩
  · have hs := hsz _ _ rfl
    simp only [List.length_map, List.length_range] at hs
    have hlm : len ≤ m := by rw [hmm]; split <;> omega
    rw [Try.cellsStep] at hx
    obtain ⟨f, hf⟩ := choose_lt (α := Int × Int × Int × Int × Int) (n := len) (p := fun i z => W.cells? base (a.add (i * 5)) 5 = some [.int .i64 z.1, .int .i64 z.2.1, .int .i64 z.2.2.1, .int .i64 z.2.2.2.1, .int .i64 z.2.2.2.2] ∧ -9223372036854775808 ≤ z.2.1 ∧ z.2.1 ≤ 9223372036854775807) (fun i hi => by
      obtain ⟨cs', h1, h2⟩ := hx i (by omega)
      obtain ⟨z, rfl, hz⟩ := step_open h2
      exact ⟨z, h1, hz⟩)
    refine ⟨_, (List.range len).map f, rfl, ⟨some a, cap, by simp, by simp; omega, fun k hk => ?_⟩, by simp; omega⟩
    have hk' : k < len := by simpa using hk
    obtain ⟨ab, off, spot⟩ := a
    have c0 := (World.cells?_some (hf 0 (by omega)).1).2.2 0 (by omega)
    have hspot : spot = none := by simpa [Addr.add] using World.cell?_spot c0
    subst hspot
    have ck := (World.cells?_some (hf k hk').1).2.2
    have ad : ∀ i, ((⟨ab, off, none⟩ : Addr).add (k * 5)).add i = ⟨ab, off + k * 5 + i, none⟩ := by
      intro i
      rw [add_add]
      unfold Addr.add
      split
      · simp_all
      · simp [Nat.add_assoc]
    have c0 := ck 0 (by omega)
    have c1 := ck 1 (by omega)
    have c2 := ck 2 (by omega)
    have c3 := ck 3 (by omega)
    have c4 := ck 4 (by omega)
    rw [ad] at c0 c1 c2 c3 c4
    simp only [List.getElem_map, List.getElem_range]
    exact ⟨ab, off, (by simpa [Addr.add] using World.cells?_block (hf 0 (by omega)).1 (by omega)), rfl, c0, c1, c2, c3, c4, (hf k hk').2⟩
end

set_option maxRecDepth 100000 in
theorem asks_lifted (os : Os) (started : os.Started) (H : Type) (enc : TypeId × Value → H) :
    ReturnsInHanded {} Try.checked os 3 .any (Rows.asksSpec.pre6 enc Try.prog Try.f3 Rows.asksRow.domain false) (Rows.asksSpec.post enc Try.prog Try.f3 false true false false) := by
  refine returnsInHanded_of_change_sized (C := Try.checked) Try.own started (by kernel_rfl) Try.func3
    (ChangeSpec.witness6 (enc := enc) (C := Try.checked) false ⟨#[], #[.slice none 0 0], []⟩ 8 (by kernel_rfl) (by kernel_rfl) (by kernel_rfl) (by kernel_rfl)) ?_
  intro W base args ds gs before hval0 hW _ hsz0 _
  have hval : ∀ (j : Nat) t v, Try.f3.params[j]? = some t → args[j]? = some v → Value.okWide Try.prog W .any base t v := hval0
  have hsz : (DataW.weightsEach Try.prog (Try.f3.params.toList ++ Rows.asksSpec.plain.varTypes Try.prog) (ds ++ gs)).all (· ≤ reachBytes) = true := hsz0
  have hW' := hW
  obtain ⟨p, q, hA0, hV, rfl, hfz, hnd⟩ := hW
  have hA : DataW.TrodAll enc Try.prog W 0 (fun _ => true) true Try.f3.params.toList args.toList ds p := hA0
  rw [Try.params3] at hA hval hsz
  obtain ⟨v0, d0, rfl, rfl, h0⟩ := trodAll_one hA
  obtain ⟨rfl, rfl⟩ := trodVars_none hV
  have h0k := h0
  obtain ⟨fuel, hf⟩ := h0
  clear hA0 hval0 hsz0
  simp only [List.append_nil] at hW'
  have hlt : ∀ x ∈ p, x.block < W.heap.size := fun x hx => by simpa using hW'.lt x hx
  obtain ⟨a0, len, cap, rfl⟩ := okWide_slice Try.underlying22 (hval 0 22 v0 rfl rfl)
  obtain ⟨sv, ss, e, S, _⟩ := script_open hf 3518437208780 (by omega) (fun el s e => by
    simp at e
    subst e
    have := sized_slice hsz (j := 0) (t := 22) (e := 79) rfl rfl Try.underlying22
    rw [Try.bytesStep] at this
    unfold reachBytes at this
    omega)
  simp [Value.cells] at e
  subst e
  refine (asks_law _ ss W S).mono fun e W' ⟨he, hb⟩ => ?_
  subst he
  exact ⟨_, rfl, ⟨_, _, _, [], _, [], hW', trodAll_mk1 (shut_bool Try.underlying4 true), trodAll_mk1 (Below.trod Try.laidOut (by kernel_rfl) (of_decide_eq_true (by kernel_rfl)) h0k hb hlt), rfl, hb.frame _, fun h => by cases h⟩⟩

theorem asks_holds : Rows.AsksSaid :=
  OpenClaim.holds_of_wide 3 Try.f3 rfl rfl rfl rfl rfl rfl rfl ⟨rfl, rfl, rfl, rfl, rfl⟩ rfl rfl rfl rfl rfl (by kernel_rfl) Try.func3 (by kernel_rfl)
    (of_decide_eq_true (by kernel_rfl)) (by unfold Func.isWrapper; first | (rw [if_pos (by decide +kernel)]; kernel_rfl) | (rw [if_neg (by decide +kernel)]; exact ⟨rfl, rfl⟩))
    (fun os started H enc _ => asks_lifted os started H enc)

end Go.Proofs.Ytekjgjhhjlcoaaa
