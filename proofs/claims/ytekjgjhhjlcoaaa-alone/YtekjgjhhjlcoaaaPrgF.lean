import Derived.Test.YtekjgjhhjlcoaaaPrgE
import Derived.LaidEqlPtr
namespace Go.Proofs.Ytekjgjhhjlcoaaa
open Go.RowKit Go.Conc

theorem run_neq_ptr_same {P : Program} (w : World) {tp te : TypeId} {j : TypeInfo} (a : Addr) (hp : P.underlying tp = some (.pointer te)) (hte : P.info? te = some j) :
    (binOp .neq tp (.pointer (some a)) (.pointer (some a))).run P w = .ok (.bool false) w := by
  have h : ∀ d : Nat, (Op.equalIn (d + 1) tp (.pointer (some a)) (.pointer (some a))).run P w = .ok true w := fun d => by
    simp [Op.equalIn, run_underlying hp, sizeOf, typeInfo, hte, run_sameAddr_same]
  simp only [binOp]
  simp [Op.equal, Op.maxDepth, h 9999]

theorem run_neq_ptr_other {P : Program} (w : World) {tp te : TypeId} {j : TypeInfo} {a b : Addr} {ca cb : Array Value} {ta tb : TypeId} (hp : P.underlying tp = some (.pointer te)) (hte : P.info? te = some j) (hsz : j.size ≠ 0)
    (hne : a ≠ b) (ha : w.heap[a.block]? = some (.cells ca ta (0, 0))) (hb : w.heap[b.block]? = some (.cells cb tb (0, 0))) :
    (binOp .neq tp (.pointer (some a)) (.pointer (some b))).run P w = .ok (.bool true) w := by
  have h : ∀ d : Nat, (Op.equalIn (d + 1) tp (.pointer (some a)) (.pointer (some b))).run P w = .ok false w := fun d => by
    simp [Op.equalIn, run_underlying hp, sizeOf, typeInfo, hte, hsz, run_sameAddr_other w hne ha hb]
  simp only [binOp]
  simp [Op.equal, Op.maxDepth, h 9999]

theorem Try.infoNode : ∃ i, Try.prog.info? 110 = some i ∧ i.size ≠ 0 := by
  have h : (Try.prog.info? 110).map (·.size) = some 8 := by kernel_rfl
  obtain ⟨i, hi, hb⟩ := Option.map_eq_some_iff.1 h
  exact ⟨i, hi, by omega⟩
theorem Try.infoList : ∃ i, Try.prog.info? 66 = some i ∧ i.size ≠ 0 := by
  have h : (Try.prog.info? 66).map (·.size) = some 2 := by kernel_rfl
  obtain ⟨i, hi, hb⟩ := Option.map_eq_some_iff.1 h
  exact ⟨i, hi, by omega⟩

theorem node_neq_self (a : Addr) (w : World) : (binOp .neq 64 (.pointer (some a)) (.pointer (some a))).run Try.prog w = .ok (.bool false) w := by
  obtain ⟨i, hi, _⟩ := Try.infoNode
  exact run_neq_ptr_same w a Try.underlying64 hi
theorem list_neq_self (a : Addr) (w : World) : (binOp .neq 108 (.pointer (some a)) (.pointer (some a))).run Try.prog w = .ok (.bool false) w := by
  obtain ⟨i, hi, _⟩ := Try.infoList
  exact run_neq_ptr_same w a Try.underlying108 hi

theorem pn_congr {a b : Option Nd} (h : a.map (·.blk) = b.map (·.blk)) : pn a = pn b := by
  cases a <;> cases b <;> simp_all [pn]
theorem pn_same {ns ns' : List Nd} (h : ns'.map (·.blk) = ns.map (·.blk)) (j : Nat) : pn ns'[j]? = pn ns[j]? := by
  apply pn_congr
  rw [← List.getElem?_map, ← List.getElem?_map, h]
theorem prev_same {ns ns' : List Nd} (h : ns'.map (·.blk) = ns.map (·.blk)) (j : Nat) : pn (prevOf ns' j) = pn (prevOf ns j) := by
  unfold prevOf
  split
  · rfl
  · exact pn_same h _
theorem last_same {ns ns' : List Nd} (h : ns'.map (·.blk) = ns.map (·.blk)) : pn ns'.getLast? = pn ns.getLast? := by
  rw [List.getLast?_eq_getElem?, List.getLast?_eq_getElem?]
  have : ns'.length = ns.length := by simpa using congrArg List.length h
  rw [this]; exact pn_same h _
theorem head_same {ns ns' : List Nd} (h : ns'.map (·.blk) = ns.map (·.blk)) : pn ns'.head? = pn ns.head? := by
  rw [pn_head, pn_head]; exact pn_same h _

theorem set_blk (ns : List Nd) (j : Nat) (hj : j < ns.length) (n' : Nd) (hb : n'.blk = ns[j].blk) : (ns.set j n').map (·.blk) = ns.map (·.blk) := by
  apply List.ext_getElem
  · simp
  · intro i h1 h2
    simp only [List.getElem_map, List.getElem_set]
    split
    · rename_i e; subst e; exact hb
    · rfl

section
variable {w w' : World} {gb : Nat} {q : Gn} {tv : Value} {rs : List Rc} {ns : List Nd}

theorem PH.setCount (h : PH w gb q tv rs ns) (j : Nat) (hj : j < ns.length) (x : Int) : PH (w.setCell ⟨ns[j].blk, 3, none⟩ (.int .i64 x)) gb q tv rs (ns.set j { ns[j] with count := x }) := by
  have hn := h.nodes j hj
  have keep : ∀ k, k ≠ ns[j].blk → (w.setCell ⟨ns[j].blk, 3, none⟩ (.int .i64 x)).heap[k]? = w.heap[k]? := fun k hk => Below.heap_setCell _ _ _ _ hk
  have hm := set_blk ns j hj { ns[j] with count := x } rfl
  refine ⟨?_, ownsRow_keep h.row fun k hk' => keep k ?_, fun r hr => (keep _ ?_).trans (h.recs r hr), fun r hr c s hc => (keep _ ?_).trans (h.chans r hr c s hc), ?_, h.nd1, by rw [hm]; exact h.nd2, h.nd3⟩
  · rw [head_same hm, last_same hm, keep gb (ne_of_kind h.gate hn (by simp [kind_cells, kind_gate, nodeObj]))]; exact h.gate
  · obtain ⟨cur, hh⟩ := h.rowBlk hk'; exact ne_of_kind hh hn (by simp [kind_cells, nodeObj])
  · exact ne_of_kind (h.recs r hr) hn (by simp [kind_cells, nodeObj, recObj])
  · exact ne_of_kind (h.chans r hr c s hc) hn (by simp [kind_cells, kind_chan, nodeObj])
  · intro i hi
    have hi' : i < ns.length := by simpa using hi
    unfold nodeObj
    rw [prev_same hm, pn_same hm]
    by_cases e : j = i
    · subst e
      simp only [List.getElem_set_self]
      exact heap_setCell_same w ns[j].blk 3 _ _ _ hn
    · simp only [List.getElem_set_ne e]
      rw [keep _ (h.nodeNe hi' hj (fun x => e x.symm))]
      exact h.nodes i hi'

def bumpNd (n : Nd) : Nd := { n with count := n.count + 1 }
def bumpN (j : Nat) (ns : List Nd) : List Nd := (ns.take j).map bumpNd ++ ns.drop j

theorem bumpN_length (j : Nat) (l : List Nd) : (bumpN j l).length = l.length := by simp [bumpN]; omega
theorem bumpN_zero (l : List Nd) : bumpN 0 l = l := by simp [bumpN]
theorem bumpN_get (j : Nat) (l : List Nd) (i : Nat) : (bumpN j l)[i]? = if i < j then l[i]?.map bumpNd else l[i]? := by
  unfold bumpN
  rw [List.getElem?_append]
  by_cases hl : i < l.length
  · by_cases h : i < j
    · rw [if_pos (by simp; omega), if_pos h]
      simp [h]
    · rw [if_neg (by simp; omega), if_neg h]
      simp only [List.getElem?_drop, List.length_map, List.length_take]
      congr 1
      omega
  · rw [List.getElem?_eq_none (by omega : l.length ≤ i)]
    have h1 : (List.map bumpNd (List.take j l))[i]? = none := List.getElem?_eq_none (by simp; omega)
    have h2 : (List.drop j l)[i - (List.map bumpNd (List.take j l)).length]? = none := List.getElem?_eq_none (by simp; omega)
    rw [h1, h2]
    simp
theorem bumpN_at (j : Nat) (l : List Nd) (i : Nat) (hi : i < l.length) : (bumpN j l)[i]'(by rw [bumpN_length]; exact hi) = if i < j then bumpNd l[i] else l[i] := by
  apply Option.some.inj
  rw [← List.getElem?_eq_getElem, bumpN_get, List.getElem?_eq_getElem hi]
  split <;> rfl
theorem bumpN_blk (j : Nat) (l : List Nd) : (bumpN j l).map (·.blk) = l.map (·.blk) := by
  apply List.ext_getElem?
  intro i
  rw [List.getElem?_map, List.getElem?_map, bumpN_get]
  split
  · cases l[i]? <;> rfl
  · rfl
theorem bumpN_succ (j : Nat) (l : List Nd) (hj : j < l.length) : bumpN (j + 1) l = (bumpN j l).set j { (bumpN j l)[j]'(by rw [bumpN_length]; exact hj) with count := l[j].count + 1 } := by
  apply List.ext_getElem
  · simp [bumpN_length]
  · intro i h1 h2
    have hi : i < l.length := by simpa [bumpN_length] using h1
    rw [bumpN_at _ _ _ hi, List.getElem_set]
    by_cases e : j = i
    · subst e
      rw [if_pos (by omega), if_pos rfl, bumpN_at _ _ _ hj, if_neg (by omega)]; rfl
    · rw [if_neg e, bumpN_at _ _ _ hi]
      by_cases h : i < j
      · rw [if_pos (by omega), if_pos h]
      · rw [if_neg (by omega), if_neg h]

theorem PH.node_neq (h : PH w gb q tv rs ns) (i j : Nat) (hi : i < ns.length) (hj : j < ns.length) (hne : i ≠ j) :
    (binOp .neq 64 (.pointer (some ⟨ns[i].blk, 0, none⟩)) (.pointer (some ⟨ns[j].blk, 0, none⟩))).run Try.prog w = .ok (.bool true) w := by
  obtain ⟨k, hk, hs⟩ := Try.infoNode
  exact run_neq_ptr_other w Try.underlying64 hk hs (by simp; exact h.nodeNe hi hj hne) (h.nodes i hi) (h.nodes j hj)

set_option maxHeartbeats 1000000 in
theorem passBy_any (h : PH w gb q tv rs ns) (k : Nat) (hk : k < ns.length) (hc : ∀ i, i < ns.length → ∀ hi : i < ns.length, 0 ≤ ns[i].count ∧ ns[i].count ≤ 1000) :
    Calls Try.prog 80 #[.pointer (some ⟨gb, 0, none⟩), .pointer (some ⟨ns[k].blk, 0, none⟩)] w fun e w' => e = .returned (.tuple #[]) ∧ PH w' gb q tv rs (bumpN k ns) ∧ Tch (PS gb tv rs ns) w w' := by
  go_enter Try.func80, Try.ntmps80
  go_wp2_with (go_at_call 39; refine (first_any h).mono ?_; rintro e w' ⟨rfl, rfl⟩)
  go_loopg [4] k (fun r n wr => ∃ j, j + r = k ∧ n = pn ns[j]? ∧ PH wr gb q tv rs (bumpN j ns) ∧ Tch (PS gb tv rs ns) w' wr)
  case atStart => exact ⟨0, by omega, pn_head ns, by rw [bumpN_zero]; exact h, Tch.refl _ _⟩
  case round =>
    obtain ⟨j, hj, rfl, HP, HT⟩ := hrel
    have hjl : j < ns.length := by omega
    rw [pn_at ns j hjl]
    by_cases hlt : j < k
    · have hne : ns[j].blk ≠ ns[k].blk := h.nodeNe hjl hk (by omega)
      have hjb : j < (bumpN j ns).length := by rw [bumpN_length]; exact hjl
      have ea := bumpN_at j ns j hjl
      rw [if_neg (by omega)] at ea
      have n2 := HP.ncell j hjb 3
      have f2 := HP.nfr j hjb 3
      simp only [ea] at n2 f2
      simp at n2
      have hb := hc j hjl hjl
      have hkb : k < (bumpN j ns).length := by rw [bumpN_length]; exact hk
      have hnq := HP.node_neq j k hjb hkb (by omega)
      rw [show ((bumpN j ns)[j]'hjb).blk = ns[j].blk from by rw [ea], show ((bumpN j ns)[k]'hkb).blk = ns[k].blk from by rw [bumpN_at _ _ _ hk, if_neg (by omega)]] at hnq
      have h1 := HP.setCount j hjb (ns[j].count + 1)
      rw [← bumpN_succ j ns hjl, ea] at h1
      have hj1 : j + 1 < ns.length := by omega
      have hj1b : j < (bumpN (j + 1) ns).length := by rw [bumpN_length]; exact hjl
      have ea2 : ((bumpN (j + 1) ns)[j]'hj1b).blk = ns[j].blk := by rw [bumpN_at _ _ _ hjl, if_pos (by omega)]; rfl
      have HX := hid (pn_same (bumpN_blk (j + 1) ns) (j + 1))
      have HN := next_any h1 j hj1b
      rw [ea2, HX.out] at HN
      have EA := hid ea; clear ea ea2
      go_wp2_with (go_at_call 76; refine HN.mono ?_; rintro e w' ⟨rfl, rfl⟩)
      go_roundg (gk - 1)
      case rel => exact ⟨j + 1, by omega, by rw [List.getElem?_eq_getElem hj1], h1, HT.setCell (p := ⟨ns[j].blk, 3, none⟩) (Or.inl (PS.node _ _ _ _ j hjl)) _⟩
      case measure => omega
    · obtain rfl : j = k := by omega
      have hnq := node_neq_self ⟨ns[j].blk, 0, none⟩ wr
      go_wp2
      go_end0
      exact ⟨rfl, HP, HT⟩
end

end Go.Proofs.Ytekjgjhhjlcoaaa
