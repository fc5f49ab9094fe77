import Derived.Test.YtekjgjhhjlcoaaaPrgR
namespace Go.Proofs.Ytekjgjhhjlcoaaa
open Go.RowKit Go.Conc

/-- What the calls of the third stage do, as the law takes them. -/
structure GateHall : Prop where
  newHall : ∀ (n pass : Int) (w : World), Calls Try.prog 26 #[.int .i64 n, .int .i64 pass] w fun e w' =>
    (Tg.hallErr n pass = 0 ∧ ∃ hb, e = .returned (.tuple #[.pointer (some ⟨hb, 0, none⟩), .int .i64 0]) ∧ w.heap.size ≤ hb ∧ PG (some n) w' hb (Tg.fresh n pass) (.slice none 0 0) [] [] ∧ Tch (fun _ => False) w w') ∨
    (Tg.hallErr n pass ≠ 0 ∧ e = .returned (.tuple #[.pointer none, .int .i64 (Tg.hallErr n pass)]) ∧ Tch (fun _ => False) w w')
  read : ∀ {n : Int} {w : World} {gb : Nat} {g : Tg.Gt} {tv : Value} {rs : List Rc} {ns : List Nd}, PG (some n) w gb g tv rs ns → Tg.GtOk g → Tg.Quiet g.room g.pass g.all → ∀ wait : Int, g.all.length + 1 ≤ 10000000000000 → g.time ≤ 4611686018427387904 →
    Calls Try.prog 27 #[.pointer (some ⟨gb, 0, none⟩), .int .i64 wait] w fun e w' =>
      e = .returned (.tuple #[.int .i64 (Tg.ask g 1 1 wait).2.1, .int .i64 (Tg.ask g 1 1 wait).2.2.1, .int .i64 (Tg.ask g 1 1 wait).2.2.2]) ∧ ∃ tv' rs' ns', Left1 (some n) w gb tv rs ns w' (Tg.ask g 1 1 wait).1 tv' rs' ns'
  write : ∀ {n : Int} {w : World} {gb : Nat} {g : Tg.Gt} {tv : Value} {rs : List Rc} {ns : List Nd}, PG (some n) w gb g tv rs ns → Tg.GtOk g → Tg.Quiet g.room g.pass g.all → ∀ wait : Int, g.all.length + 1 ≤ 10000000000000 → g.time ≤ 4611686018427387904 →
    Calls Try.prog 28 #[.pointer (some ⟨gb, 0, none⟩), .int .i64 wait] w fun e w' =>
      e = .returned (.tuple #[.int .i64 (Tg.ask g n 0 wait).2.1, .int .i64 (Tg.ask g n 0 wait).2.2.1, .int .i64 (Tg.ask g n 0 wait).2.2.2]) ∧ ∃ tv' rs' ns', Left1 (some n) w gb tv rs ns w' (Tg.ask g n 0 wait).1 tv' rs' ns'

end Go.Proofs.Ytekjgjhhjlcoaaa
