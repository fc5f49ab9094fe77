import Derived.Test.YtekjgjhhjlcoaaaRows
import Derived.Test.YtekjgjhhjlcoaaaKeepA
import Derived.ProofKit
import Derived.SizedLaws
import Derived.OpenShut
import Derived.Deep.Slices
namespace Go.Proofs.Ytekjgjhhjlcoaaa
open Go.ChangeShapes Go.WideShapes Go.ChangeAt Go.RowKit Go.Deep

theorem Try.ownK : ownKnob Try.prog.godebug = none := by kernel_rfl
theorem Try.laidOutK : laidOutB Try.prog = true := by kernel_rfl
theorem Try.cellsIntK : Try.prog.cellsOf 3 = 1 := by kernel_rfl
theorem Try.cellsAct : Try.prog.cellsOf 32 = 4 := by kernel_rfl
theorem Try.bytesAct : Try.prog.bytesOf 32 = 32 := by kernel_rfl

theorem i64_of_wf {x : Int} (h : (Lit.int .i64 x).wf = true) : I64 x := by
  simp only [Lit.wf, Bool.and_eq_true, decide_eq_true_eq] at h
  exact ⟨h.1, h.2⟩

section
variable {H : Type} {enc : TypeId × Value → H} {W : World} {base : Nat} {sp : Nat → Bool} {held : Bool}

set_option maxRecDepth 100000 in
theorem act_open {n : Nat} {cs : List Value} {y : DataW H × List MemPlace} (h : DataW.trod enc Try.prog W base sp held n 32 cs = some y) :
    ∃ z : Int × Int × Int × Int, cs = [.int .i64 z.1, .int .i64 z.2.1, .int .i64 z.2.2.1, .int .i64 z.2.2.2] ∧ I64 z.1 ∧ I64 z.2.1 ∧ I64 z.2.2.1 ∧ I64 z.2.2.2 := by
  obtain ⟨xs, m, _, _, hl, hx, hf⟩ := DataW.trod_struct Try.underlying32 h
  rw [Try.cellsAct] at hl
  match cs, hl with
  | [c0, c1, c2, c3], _ =>
    match xs, hx with
    | [x0, x1, x2, x3], _ =>
      have f0 := hf 0 _ rfl
      have f1 := hf 1 _ rfl
      have f2 := hf 2 _ rfl
      have f3 := hf 3 _ rfl
      simp [Try.cellsIntK] at f0 f1 f2 f3
      obtain ⟨z0, e0, _, w0⟩ := DataW.trod_int Try.underlying3 f0
      obtain ⟨z1, e1, _, w1⟩ := DataW.trod_int Try.underlying3 f1
      obtain ⟨z2, e2, _, w2⟩ := DataW.trod_int Try.underlying3 f2
      obtain ⟨z3, e3, _, w3⟩ := DataW.trod_int Try.underlying3 f3
      simp at e0 e1 e2 e3
      subst e0 e1 e2 e3
      exact ⟨(z0, z1, z2, z3), rfl, i64_of_wf w0, i64_of_wf w1, i64_of_wf w2, i64_of_wf w3⟩

set_option maxRecDepth 100000 in
theorem acts_open {fuel : Nat} {cs : List Value} {x : DataW H × List MemPlace} (h : DataW.trod enc Try.prog W base sp held fuel 25 cs = some x)
    (M : Nat) (hM : M * 32 ≤ 140737488351232) (hsz : ∀ el s, x.1 = .slice el s → el.length + s.length ≤ M) : ∃ sv ls, cs = [sv] ∧ Acts W W.heap.size sv ls ∧ ls.length ≤ M := by
  rcases open_slice Try.underlying25 h with ⟨rfl, rfl⟩ | ⟨a, len, cap, m, n, D, Pl, rfl, hb, hl, hm, hmm, rfl, hx⟩
  · exact ⟨_, [], rfl, ⟨none, 0, rfl, by simp, fun k hk => by simp at hk⟩, by simp⟩
  · have hs := hsz _ _ rfl
    simp only [List.length_map, List.length_range] at hs
    have hlm : len ≤ m := by rw [hmm]; split <;> omega
    rw [Try.cellsAct] at hx
    obtain ⟨f, hf⟩ := choose_lt (α := Int × Int × Int × Int) (n := len) (p := fun i z => W.cells? base (a.add (i * 4)) 4 = some [.int .i64 z.1, .int .i64 z.2.1, .int .i64 z.2.2.1, .int .i64 z.2.2.2] ∧ I64 z.1 ∧ I64 z.2.1 ∧ I64 z.2.2.1 ∧ I64 z.2.2.2) (fun i hi => by
      obtain ⟨cs', h1, h2⟩ := hx i (by omega)
      obtain ⟨z, rfl, hz⟩ := act_open h2
      exact ⟨z, h1, hz⟩)
    refine ⟨_, (List.range len).map f, rfl, ⟨some a, cap, by simp, by simp; omega, fun k hk => ?_⟩, by simp; omega⟩
    have hk' : k < len := by simpa using hk
    obtain ⟨ab, off, spot⟩ := a
    have c0 := (World.cells?_some (hf 0 (by omega)).1).2.2 0 (by omega)
    have hspot : spot = none := by simpa [Addr.add] using World.cell?_spot c0
    subst hspot
    have ck := (World.cells?_some (hf k hk').1).2.2
    have ad : ∀ i, ((⟨ab, off, none⟩ : Addr).add (k * 4)).add i = ⟨ab, off + k * 4 + i, none⟩ := by
      intro i
      rw [add_add]
      unfold Addr.add
      split
      · simp_all
      · simp [Nat.add_assoc]
    have c0 := ck 0 (by omega)
    have c1 := ck 1 (by omega)
    have c2 := ck 2 (by omega)
    have c3 := ck 3 (by omega)
    rw [ad] at c0 c1 c2 c3
    simp only [List.getElem_map, List.getElem_range]
    exact ⟨ab, off, (by simpa [Addr.add] using World.cells?_block (hf 0 (by omega)).1 (by omega)), rfl, c0, c1, c2, c3, (hf k hk').2⟩
end

end Go.Proofs.Ytekjgjhhjlcoaaa
