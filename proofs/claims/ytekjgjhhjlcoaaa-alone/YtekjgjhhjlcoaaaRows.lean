/-
  No cell of these rows narrows 'for every input' (looked for: loops, veiled, ifaces, maps, wideKeys, modest, calm, conditions, laid).
  DERIVED. THE GIVEN ROWS OF THIS SEAT. 9 by the template 'for every input the law returns true; each argument reads behind the call as it read before'; 0 by the template 'total and deterministic' (their statements: YtekjgjhhjlcoaaaTotals.lean).
  GIVEN WITH THE SEED: the statements are not yours to turn. If you find one false, say at which input.
  Laid BY PROGRAM, IN A SANDBOX (cutbox-rows.mjs): the forced cells as the released guide's own fill.sh prints them over the translation 449ff25a0d05e30a… (all of the seat's roots in one cut). By AI agents, Wed Nov 11 2026. No macro, syntax, notation, axiom, sorry.
-/
import Derived.Test.YtekjgjhhjlcoaaaChecked
import GoSem.Claim
import GoSem.ClaimJoined
import GoSem.ClaimMapViews
import Derived.JoinedTies
import Derived.KernelRfl
namespace Go.Proofs.Ytekjgjhhjlcoaaa
/- THE CELL 'sum', in the pinned program and in every row, IS THE sha256 OF THE DUMP (.gsa) THAT YtekjgjhhjlcoaaaProg.lean LOADS. Nothing in Lean hashes anything: it is a label: what it is worth is what the hold of that sum in a sandbox is worth. -/
noncomputable def Try.pinned : Pinned := { name := "ytekjgjhhjlcoaaa", sum := "449ff25a0d05e30aa0a5a5dec6c8a218b260fcefd8c81d6aef18eef41a38924e", checked := Try.checked }
namespace Rows
def none {H : Type} : Left H := { results := [], args := [] }

/-- 'tollgatelaw.Asks': WHATEVER THE INPUT: true; the input reads as it did. -/
def asksSpec : ChangeSpec := { name := "asks", fn := fun _ => fun
  | [d] => { results := [.lit (.bool true)], args := [d] }
  | _ => none }
def asksRow : OpenClaim := { program := "ytekjgjhhjlcoaaa", sum := "449ff25a0d05e30aa0a5a5dec6c8a218b260fcefd8c81d6aef18eef41a38924e", func := "tollgate/tollgatelaw.Asks", spec := "asks", inPlace := ["(*internal/sync.Mutex).Lock", "internal/race.Disable", "sync/atomic.CompareAndSwapInt32", "internal/race.Enable", "internal/race.Acquire", "(*internal/sync.Mutex).lockSlow", "internal/sync.runtime_canSpin", "internal/sync.runtime_doSpin", "internal/sync.throw", "internal/sync.runtime_nanotime", "internal/sync.runtime_SemacquireMutex", "sync/atomic.AddInt32", "(*internal/sync.Mutex).Unlock", "internal/race.ReleaseMerge", "(*internal/sync.Mutex).unlockSlow", "internal/sync.fatal", "internal/sync.runtime_Semrelease"], unfollowed := true, recurses := true, apart := false }
def AsksSaid : Prop := asksRow.holds Try.pinned (OpenSpec.ofChange asksSpec)

/-- ITS FALSE NEIGHBOUR: 'it returns false'. Refute it at one input. -/
def asksWrong : ChangeSpec := { name := "asks", fn := fun _ => fun
  | [d] => { results := [.lit (.bool false)], args := [d] }
  | _ => none }
def AsksWrongFalsely : Prop := asksRow.holds Try.pinned (OpenSpec.ofChange asksWrong)

/-- 'tollgatelaw.Turns': WHATEVER THE INPUT: true; the input reads as it did. -/
def turnsSpec : ChangeSpec := { name := "turns", fn := fun _ => fun
  | [d] => { results := [.lit (.bool true)], args := [d] }
  | _ => none }
def turnsRow : OpenClaim := { program := "ytekjgjhhjlcoaaa", sum := "449ff25a0d05e30aa0a5a5dec6c8a218b260fcefd8c81d6aef18eef41a38924e", func := "tollgate/tollgatelaw.Turns", spec := "turns", inPlace := ["(*internal/sync.Mutex).Lock", "internal/race.Disable", "sync/atomic.CompareAndSwapInt32", "internal/race.Enable", "internal/race.Acquire", "(*internal/sync.Mutex).lockSlow", "internal/sync.runtime_canSpin", "internal/sync.runtime_doSpin", "internal/sync.throw", "internal/sync.runtime_nanotime", "internal/sync.runtime_SemacquireMutex", "sync/atomic.AddInt32", "(*internal/sync.Mutex).Unlock", "internal/race.ReleaseMerge", "(*internal/sync.Mutex).unlockSlow", "internal/sync.fatal", "internal/sync.runtime_Semrelease"], unfollowed := true, recurses := true, apart := false }
def TurnsSaid : Prop := turnsRow.holds Try.pinned (OpenSpec.ofChange turnsSpec)

/-- ITS FALSE NEIGHBOUR: 'it returns false'. Refute it at one input. -/
def turnsWrong : ChangeSpec := { name := "turns", fn := fun _ => fun
  | [d] => { results := [.lit (.bool false)], args := [d] }
  | _ => none }
def TurnsWrongFalsely : Prop := turnsRow.holds Try.pinned (OpenSpec.ofChange turnsWrong)

/-- 'tollgatelaw.All': WHATEVER THE INPUT: true; the input reads as it did. -/
def allSpec : ChangeSpec := { name := "all", fn := fun _ => fun
  | [d] => { results := [.lit (.bool true)], args := [d] }
  | _ => none }
def allRow : OpenClaim := { program := "ytekjgjhhjlcoaaa", sum := "449ff25a0d05e30aa0a5a5dec6c8a218b260fcefd8c81d6aef18eef41a38924e", func := "tollgate/tollgatelaw.All", spec := "all", inPlace := ["(*internal/sync.Mutex).Lock", "internal/race.Disable", "sync/atomic.CompareAndSwapInt32", "internal/race.Enable", "internal/race.Acquire", "(*internal/sync.Mutex).lockSlow", "internal/sync.runtime_canSpin", "internal/sync.runtime_doSpin", "internal/sync.throw", "internal/sync.runtime_nanotime", "internal/sync.runtime_SemacquireMutex", "sync/atomic.AddInt32", "(*internal/sync.Mutex).Unlock", "internal/race.ReleaseMerge", "(*internal/sync.Mutex).unlockSlow", "internal/sync.fatal", "internal/sync.runtime_Semrelease"], unfollowed := true, recurses := true, apart := false }
def AllSaid : Prop := allRow.holds Try.pinned (OpenSpec.ofChange allSpec)

/-- ITS FALSE NEIGHBOUR: 'it returns false'. Refute it at one input. -/
def allWrong : ChangeSpec := { name := "all", fn := fun _ => fun
  | [d] => { results := [.lit (.bool false)], args := [d] }
  | _ => none }
def AllWrongFalsely : Prop := allRow.holds Try.pinned (OpenSpec.ofChange allWrong)

/-- 'tollgatekeep.Room': WHATEVER THE INPUT: true; the input reads as it did. -/
def roomSpec : ChangeSpec := { name := "room", fn := fun _ => fun
  | [d1, d2, d3] => { results := [.lit (.bool true)], args := [d1, d2, d3] }
  | _ => none }
def roomRow : OpenClaim := { program := "ytekjgjhhjlcoaaa", sum := "449ff25a0d05e30aa0a5a5dec6c8a218b260fcefd8c81d6aef18eef41a38924e", func := "tollgate/tollgatekeep.Room", spec := "room", inPlace := ["(*internal/sync.Mutex).Lock", "internal/race.Disable", "sync/atomic.CompareAndSwapInt32", "internal/race.Enable", "internal/race.Acquire", "(*internal/sync.Mutex).lockSlow", "internal/sync.runtime_canSpin", "internal/sync.runtime_doSpin", "internal/sync.throw", "internal/sync.runtime_nanotime", "internal/sync.runtime_SemacquireMutex", "sync/atomic.AddInt32", "(*internal/sync.Mutex).Unlock", "internal/race.ReleaseMerge", "(*internal/sync.Mutex).unlockSlow", "internal/sync.fatal", "internal/sync.runtime_Semrelease"], unfollowed := true, recurses := true, apart := false }
def RoomSaid : Prop := roomRow.holds Try.pinned (OpenSpec.ofChange roomSpec)

/-- ITS FALSE NEIGHBOUR: 'it returns false'. Refute it at one input. -/
def roomWrong : ChangeSpec := { name := "room", fn := fun _ => fun
  | [d1, d2, d3] => { results := [.lit (.bool false)], args := [d1, d2, d3] }
  | _ => none }
def RoomWrongFalsely : Prop := roomRow.holds Try.pinned (OpenSpec.ofChange roomWrong)

/-- 'tollgatekeep.Passed': WHATEVER THE INPUT: true; the input reads as it did. -/
def passedSpec : ChangeSpec := { name := "passed", fn := fun _ => fun
  | [d1, d2, d3] => { results := [.lit (.bool true)], args := [d1, d2, d3] }
  | _ => none }
def passedRow : OpenClaim := { program := "ytekjgjhhjlcoaaa", sum := "449ff25a0d05e30aa0a5a5dec6c8a218b260fcefd8c81d6aef18eef41a38924e", func := "tollgate/tollgatekeep.Passed", spec := "passed", inPlace := ["(*internal/sync.Mutex).Lock", "internal/race.Disable", "sync/atomic.CompareAndSwapInt32", "internal/race.Enable", "internal/race.Acquire", "(*internal/sync.Mutex).lockSlow", "internal/sync.runtime_canSpin", "internal/sync.runtime_doSpin", "internal/sync.throw", "internal/sync.runtime_nanotime", "internal/sync.runtime_SemacquireMutex", "sync/atomic.AddInt32", "(*internal/sync.Mutex).Unlock", "internal/race.ReleaseMerge", "(*internal/sync.Mutex).unlockSlow", "internal/sync.fatal", "internal/sync.runtime_Semrelease"], unfollowed := true, recurses := true, apart := false }
def PassedSaid : Prop := passedRow.holds Try.pinned (OpenSpec.ofChange passedSpec)

/-- ITS FALSE NEIGHBOUR: 'it returns false'. Refute it at one input. -/
def passedWrong : ChangeSpec := { name := "passed", fn := fun _ => fun
  | [d1, d2, d3] => { results := [.lit (.bool false)], args := [d1, d2, d3] }
  | _ => none }
def PassedWrongFalsely : Prop := passedRow.holds Try.pinned (OpenSpec.ofChange passedWrong)

/-- 'tollgatekeep.Awake': WHATEVER THE INPUT: true; the input reads as it did. -/
def awakeSpec : ChangeSpec := { name := "awake", fn := fun _ => fun
  | [d1, d2, d3] => { results := [.lit (.bool true)], args := [d1, d2, d3] }
  | _ => none }
def awakeRow : OpenClaim := { program := "ytekjgjhhjlcoaaa", sum := "449ff25a0d05e30aa0a5a5dec6c8a218b260fcefd8c81d6aef18eef41a38924e", func := "tollgate/tollgatekeep.Awake", spec := "awake", inPlace := ["(*internal/sync.Mutex).Lock", "internal/race.Disable", "sync/atomic.CompareAndSwapInt32", "internal/race.Enable", "internal/race.Acquire", "(*internal/sync.Mutex).lockSlow", "internal/sync.runtime_canSpin", "internal/sync.runtime_doSpin", "internal/sync.throw", "internal/sync.runtime_nanotime", "internal/sync.runtime_SemacquireMutex", "sync/atomic.AddInt32", "(*internal/sync.Mutex).Unlock", "internal/race.ReleaseMerge", "(*internal/sync.Mutex).unlockSlow", "internal/sync.fatal", "internal/sync.runtime_Semrelease"], unfollowed := true, recurses := true, apart := false }
def AwakeSaid : Prop := awakeRow.holds Try.pinned (OpenSpec.ofChange awakeSpec)

/-- ITS FALSE NEIGHBOUR: 'it returns false'. Refute it at one input. -/
def awakeWrong : ChangeSpec := { name := "awake", fn := fun _ => fun
  | [d1, d2, d3] => { results := [.lit (.bool false)], args := [d1, d2, d3] }
  | _ => none }
def AwakeWrongFalsely : Prop := awakeRow.holds Try.pinned (OpenSpec.ofChange awakeWrong)

/-- 'tollgatekeep.Row': WHATEVER THE INPUT: true; the input reads as it did. -/
def rowSpec : ChangeSpec := { name := "row", fn := fun _ => fun
  | [d1, d2, d3] => { results := [.lit (.bool true)], args := [d1, d2, d3] }
  | _ => none }
def rowRow : OpenClaim := { program := "ytekjgjhhjlcoaaa", sum := "449ff25a0d05e30aa0a5a5dec6c8a218b260fcefd8c81d6aef18eef41a38924e", func := "tollgate/tollgatekeep.Row", spec := "row", inPlace := ["(*internal/sync.Mutex).Lock", "internal/race.Disable", "sync/atomic.CompareAndSwapInt32", "internal/race.Enable", "internal/race.Acquire", "(*internal/sync.Mutex).lockSlow", "internal/sync.runtime_canSpin", "internal/sync.runtime_doSpin", "internal/sync.throw", "internal/sync.runtime_nanotime", "internal/sync.runtime_SemacquireMutex", "sync/atomic.AddInt32", "(*internal/sync.Mutex).Unlock", "internal/race.ReleaseMerge", "(*internal/sync.Mutex).unlockSlow", "internal/sync.fatal", "internal/sync.runtime_Semrelease"], unfollowed := true, recurses := true, apart := false }
def RowSaid : Prop := rowRow.holds Try.pinned (OpenSpec.ofChange rowSpec)

/-- ITS FALSE NEIGHBOUR: 'it returns false'. Refute it at one input. -/
def rowWrong : ChangeSpec := { name := "row", fn := fun _ => fun
  | [d1, d2, d3] => { results := [.lit (.bool false)], args := [d1, d2, d3] }
  | _ => none }
def RowWrongFalsely : Prop := rowRow.holds Try.pinned (OpenSpec.ofChange rowWrong)

/-- 'tollgatekeep.Clock': WHATEVER THE INPUT: true; the input reads as it did. -/
def clockSpec : ChangeSpec := { name := "clock", fn := fun _ => fun
  | [d] => { results := [.lit (.bool true)], args := [d] }
  | _ => none }
def clockRow : OpenClaim := { program := "ytekjgjhhjlcoaaa", sum := "449ff25a0d05e30aa0a5a5dec6c8a218b260fcefd8c81d6aef18eef41a38924e", func := "tollgate/tollgatekeep.Clock", spec := "clock", inPlace := ["(*internal/sync.Mutex).Lock", "internal/race.Disable", "sync/atomic.CompareAndSwapInt32", "internal/race.Enable", "internal/race.Acquire", "(*internal/sync.Mutex).lockSlow", "internal/sync.runtime_canSpin", "internal/sync.runtime_doSpin", "internal/sync.throw", "internal/sync.runtime_nanotime", "internal/sync.runtime_SemacquireMutex", "sync/atomic.AddInt32", "(*internal/sync.Mutex).Unlock", "internal/race.ReleaseMerge", "(*internal/sync.Mutex).unlockSlow", "internal/sync.fatal", "internal/sync.runtime_Semrelease"], apart := false }
def ClockSaid : Prop := clockRow.holds Try.pinned (OpenSpec.ofChange clockSpec)

/-- ITS FALSE NEIGHBOUR: 'it returns false'. Refute it at one input. -/
def clockWrong : ChangeSpec := { name := "clock", fn := fun _ => fun
  | [d] => { results := [.lit (.bool false)], args := [d] }
  | _ => none }
def ClockWrongFalsely : Prop := clockRow.holds Try.pinned (OpenSpec.ofChange clockWrong)

/-- 'tollgatekeep.Alone': WHATEVER THE INPUT: true; the input reads as it did. -/
def aloneSpec : ChangeSpec := { name := "alone", fn := fun _ => fun
  | [d1, d2, d3] => { results := [.lit (.bool true)], args := [d1, d2, d3] }
  | _ => none }
def aloneRow : OpenClaim := { program := "ytekjgjhhjlcoaaa", sum := "449ff25a0d05e30aa0a5a5dec6c8a218b260fcefd8c81d6aef18eef41a38924e", func := "tollgate/tollgatekeep.Alone", spec := "alone", inPlace := ["(*internal/sync.Mutex).Lock", "internal/race.Disable", "sync/atomic.CompareAndSwapInt32", "internal/race.Enable", "internal/race.Acquire", "(*internal/sync.Mutex).lockSlow", "internal/sync.runtime_canSpin", "internal/sync.runtime_doSpin", "internal/sync.throw", "internal/sync.runtime_nanotime", "internal/sync.runtime_SemacquireMutex", "sync/atomic.AddInt32", "(*internal/sync.Mutex).Unlock", "internal/race.ReleaseMerge", "(*internal/sync.Mutex).unlockSlow", "internal/sync.fatal", "internal/sync.runtime_Semrelease"], unfollowed := true, recurses := true, apart := false }
def AloneSaid : Prop := aloneRow.holds Try.pinned (OpenSpec.ofChange aloneSpec)

/-- ITS FALSE NEIGHBOUR: 'it returns false'. Refute it at one input. -/
def aloneWrong : ChangeSpec := { name := "alone", fn := fun _ => fun
  | [d1, d2, d3] => { results := [.lit (.bool false)], args := [d1, d2, d3] }
  | _ => none }
def AloneWrongFalsely : Prop := aloneRow.holds Try.pinned (OpenSpec.ofChange aloneWrong)

/- THE SECOND FORM. 'bulk': how many values and letters a reading holds, each counted each time it is reached (what is shared counts as often as it is met; a slice's spare places count too). A statement '..UptoSaid' is the law's where the arguments, and the package variables that the reading takes, are together of bulk at most 1048576: NARROWER than '..Said'. Prove '..Said' where nothing that the law and all that it calls make is longer than what came in: it says more and counts as full. Else prove '..UptoSaid'. A law counts once. -/
mutual
def uptoBulk {H : Type} : DataW H → Nat
  | .lit (.string bytes) => bytes.length + 1
  | .lit _ => 1
  | .nil => 1
  | .ptr d => uptoBulk d + 1
  | .slice elems spare => uptoBulkAll elems + uptoBulkAll spare + 1
  | .agg parts => uptoBulkAll parts + 1
  | .iface _ d => uptoBulk d + 1
  | .map entries => uptoBulkEntries entries + 1
  | .held _ => 1
def uptoBulkAll {H : Type} : List (DataW H) → Nat
  | [] => 0
  | d :: r => uptoBulk d + uptoBulkAll r
def uptoBulkEntries {H : Type} : List (Lit × DataW H) → Nat
  | [] => 0
  | x :: r => uptoBulkEntry x + uptoBulkEntries r
def uptoBulkEntry {H : Type} : Lit × DataW H → Nat
  | (.string bytes, d) => bytes.length + uptoBulk d + 1
  | (_, d) => uptoBulk d + 1
 end
def uptoSmall : (H : Type) → List (DataW H) → Bool := fun _ ds => decide (uptoBulkAll ds ≤ 1048576)
def OpenSpec.upto (s : _root_.Go.ChangeSpec) : _root_.Go.OpenSpec := { _root_.Go.OpenSpec.ofChange s with cond := some uptoSmall }

/-- 'tollgatelaw.Asks', WHERE WHAT IT READS IS OF BULK AT MOST 1048576: true; the input reads as it did. -/
def asksUptoRow : OpenClaim := { program := "ytekjgjhhjlcoaaa", sum := "449ff25a0d05e30aa0a5a5dec6c8a218b260fcefd8c81d6aef18eef41a38924e", func := "tollgate/tollgatelaw.Asks", spec := "asks", inPlace := ["(*internal/sync.Mutex).Lock", "internal/race.Disable", "sync/atomic.CompareAndSwapInt32", "internal/race.Enable", "internal/race.Acquire", "(*internal/sync.Mutex).lockSlow", "internal/sync.runtime_canSpin", "internal/sync.runtime_doSpin", "internal/sync.throw", "internal/sync.runtime_nanotime", "internal/sync.runtime_SemacquireMutex", "sync/atomic.AddInt32", "(*internal/sync.Mutex).Unlock", "internal/race.ReleaseMerge", "(*internal/sync.Mutex).unlockSlow", "internal/sync.fatal", "internal/sync.runtime_Semrelease"], unfollowed := true, recurses := true, apart := false, narrowed := true }
def AsksUptoSaid : Prop := asksUptoRow.holds Try.pinned (OpenSpec.upto asksSpec)

/-- 'tollgatelaw.Turns', WHERE WHAT IT READS IS OF BULK AT MOST 1048576: true; the input reads as it did. -/
def turnsUptoRow : OpenClaim := { program := "ytekjgjhhjlcoaaa", sum := "449ff25a0d05e30aa0a5a5dec6c8a218b260fcefd8c81d6aef18eef41a38924e", func := "tollgate/tollgatelaw.Turns", spec := "turns", inPlace := ["(*internal/sync.Mutex).Lock", "internal/race.Disable", "sync/atomic.CompareAndSwapInt32", "internal/race.Enable", "internal/race.Acquire", "(*internal/sync.Mutex).lockSlow", "internal/sync.runtime_canSpin", "internal/sync.runtime_doSpin", "internal/sync.throw", "internal/sync.runtime_nanotime", "internal/sync.runtime_SemacquireMutex", "sync/atomic.AddInt32", "(*internal/sync.Mutex).Unlock", "internal/race.ReleaseMerge", "(*internal/sync.Mutex).unlockSlow", "internal/sync.fatal", "internal/sync.runtime_Semrelease"], unfollowed := true, recurses := true, apart := false, narrowed := true }
def TurnsUptoSaid : Prop := turnsUptoRow.holds Try.pinned (OpenSpec.upto turnsSpec)

/-- 'tollgatelaw.All', WHERE WHAT IT READS IS OF BULK AT MOST 1048576: true; the input reads as it did. -/
def allUptoRow : OpenClaim := { program := "ytekjgjhhjlcoaaa", sum := "449ff25a0d05e30aa0a5a5dec6c8a218b260fcefd8c81d6aef18eef41a38924e", func := "tollgate/tollgatelaw.All", spec := "all", inPlace := ["(*internal/sync.Mutex).Lock", "internal/race.Disable", "sync/atomic.CompareAndSwapInt32", "internal/race.Enable", "internal/race.Acquire", "(*internal/sync.Mutex).lockSlow", "internal/sync.runtime_canSpin", "internal/sync.runtime_doSpin", "internal/sync.throw", "internal/sync.runtime_nanotime", "internal/sync.runtime_SemacquireMutex", "sync/atomic.AddInt32", "(*internal/sync.Mutex).Unlock", "internal/race.ReleaseMerge", "(*internal/sync.Mutex).unlockSlow", "internal/sync.fatal", "internal/sync.runtime_Semrelease"], unfollowed := true, recurses := true, apart := false, narrowed := true }
def AllUptoSaid : Prop := allUptoRow.holds Try.pinned (OpenSpec.upto allSpec)

/-- 'tollgatekeep.Room', WHERE WHAT IT READS IS OF BULK AT MOST 1048576: true; the input reads as it did. -/
def roomUptoRow : OpenClaim := { program := "ytekjgjhhjlcoaaa", sum := "449ff25a0d05e30aa0a5a5dec6c8a218b260fcefd8c81d6aef18eef41a38924e", func := "tollgate/tollgatekeep.Room", spec := "room", inPlace := ["(*internal/sync.Mutex).Lock", "internal/race.Disable", "sync/atomic.CompareAndSwapInt32", "internal/race.Enable", "internal/race.Acquire", "(*internal/sync.Mutex).lockSlow", "internal/sync.runtime_canSpin", "internal/sync.runtime_doSpin", "internal/sync.throw", "internal/sync.runtime_nanotime", "internal/sync.runtime_SemacquireMutex", "sync/atomic.AddInt32", "(*internal/sync.Mutex).Unlock", "internal/race.ReleaseMerge", "(*internal/sync.Mutex).unlockSlow", "internal/sync.fatal", "internal/sync.runtime_Semrelease"], unfollowed := true, recurses := true, apart := false, narrowed := true }
def RoomUptoSaid : Prop := roomUptoRow.holds Try.pinned (OpenSpec.upto roomSpec)

/-- 'tollgatekeep.Passed', WHERE WHAT IT READS IS OF BULK AT MOST 1048576: true; the input reads as it did. -/
def passedUptoRow : OpenClaim := { program := "ytekjgjhhjlcoaaa", sum := "449ff25a0d05e30aa0a5a5dec6c8a218b260fcefd8c81d6aef18eef41a38924e", func := "tollgate/tollgatekeep.Passed", spec := "passed", inPlace := ["(*internal/sync.Mutex).Lock", "internal/race.Disable", "sync/atomic.CompareAndSwapInt32", "internal/race.Enable", "internal/race.Acquire", "(*internal/sync.Mutex).lockSlow", "internal/sync.runtime_canSpin", "internal/sync.runtime_doSpin", "internal/sync.throw", "internal/sync.runtime_nanotime", "internal/sync.runtime_SemacquireMutex", "sync/atomic.AddInt32", "(*internal/sync.Mutex).Unlock", "internal/race.ReleaseMerge", "(*internal/sync.Mutex).unlockSlow", "internal/sync.fatal", "internal/sync.runtime_Semrelease"], unfollowed := true, recurses := true, apart := false, narrowed := true }
def PassedUptoSaid : Prop := passedUptoRow.holds Try.pinned (OpenSpec.upto passedSpec)

/-- 'tollgatekeep.Awake', WHERE WHAT IT READS IS OF BULK AT MOST 1048576: true; the input reads as it did. -/
def awakeUptoRow : OpenClaim := { program := "ytekjgjhhjlcoaaa", sum := "449ff25a0d05e30aa0a5a5dec6c8a218b260fcefd8c81d6aef18eef41a38924e", func := "tollgate/tollgatekeep.Awake", spec := "awake", inPlace := ["(*internal/sync.Mutex).Lock", "internal/race.Disable", "sync/atomic.CompareAndSwapInt32", "internal/race.Enable", "internal/race.Acquire", "(*internal/sync.Mutex).lockSlow", "internal/sync.runtime_canSpin", "internal/sync.runtime_doSpin", "internal/sync.throw", "internal/sync.runtime_nanotime", "internal/sync.runtime_SemacquireMutex", "sync/atomic.AddInt32", "(*internal/sync.Mutex).Unlock", "internal/race.ReleaseMerge", "(*internal/sync.Mutex).unlockSlow", "internal/sync.fatal", "internal/sync.runtime_Semrelease"], unfollowed := true, recurses := true, apart := false, narrowed := true }
def AwakeUptoSaid : Prop := awakeUptoRow.holds Try.pinned (OpenSpec.upto awakeSpec)

/-- 'tollgatekeep.Row', WHERE WHAT IT READS IS OF BULK AT MOST 1048576: true; the input reads as it did. -/
def rowUptoRow : OpenClaim := { program := "ytekjgjhhjlcoaaa", sum := "449ff25a0d05e30aa0a5a5dec6c8a218b260fcefd8c81d6aef18eef41a38924e", func := "tollgate/tollgatekeep.Row", spec := "row", inPlace := ["(*internal/sync.Mutex).Lock", "internal/race.Disable", "sync/atomic.CompareAndSwapInt32", "internal/race.Enable", "internal/race.Acquire", "(*internal/sync.Mutex).lockSlow", "internal/sync.runtime_canSpin", "internal/sync.runtime_doSpin", "internal/sync.throw", "internal/sync.runtime_nanotime", "internal/sync.runtime_SemacquireMutex", "sync/atomic.AddInt32", "(*internal/sync.Mutex).Unlock", "internal/race.ReleaseMerge", "(*internal/sync.Mutex).unlockSlow", "internal/sync.fatal", "internal/sync.runtime_Semrelease"], unfollowed := true, recurses := true, apart := false, narrowed := true }
def RowUptoSaid : Prop := rowUptoRow.holds Try.pinned (OpenSpec.upto rowSpec)

/-- 'tollgatekeep.Clock', WHERE WHAT IT READS IS OF BULK AT MOST 1048576: true; the input reads as it did. -/
def clockUptoRow : OpenClaim := { program := "ytekjgjhhjlcoaaa", sum := "449ff25a0d05e30aa0a5a5dec6c8a218b260fcefd8c81d6aef18eef41a38924e", func := "tollgate/tollgatekeep.Clock", spec := "clock", inPlace := ["(*internal/sync.Mutex).Lock", "internal/race.Disable", "sync/atomic.CompareAndSwapInt32", "internal/race.Enable", "internal/race.Acquire", "(*internal/sync.Mutex).lockSlow", "internal/sync.runtime_canSpin", "internal/sync.runtime_doSpin", "internal/sync.throw", "internal/sync.runtime_nanotime", "internal/sync.runtime_SemacquireMutex", "sync/atomic.AddInt32", "(*internal/sync.Mutex).Unlock", "internal/race.ReleaseMerge", "(*internal/sync.Mutex).unlockSlow", "internal/sync.fatal", "internal/sync.runtime_Semrelease"], apart := false, narrowed := true }
def ClockUptoSaid : Prop := clockUptoRow.holds Try.pinned (OpenSpec.upto clockSpec)

/-- 'tollgatekeep.Alone', WHERE WHAT IT READS IS OF BULK AT MOST 1048576: true; the input reads as it did. -/
def aloneUptoRow : OpenClaim := { program := "ytekjgjhhjlcoaaa", sum := "449ff25a0d05e30aa0a5a5dec6c8a218b260fcefd8c81d6aef18eef41a38924e", func := "tollgate/tollgatekeep.Alone", spec := "alone", inPlace := ["(*internal/sync.Mutex).Lock", "internal/race.Disable", "sync/atomic.CompareAndSwapInt32", "internal/race.Enable", "internal/race.Acquire", "(*internal/sync.Mutex).lockSlow", "internal/sync.runtime_canSpin", "internal/sync.runtime_doSpin", "internal/sync.throw", "internal/sync.runtime_nanotime", "internal/sync.runtime_SemacquireMutex", "sync/atomic.AddInt32", "(*internal/sync.Mutex).Unlock", "internal/race.ReleaseMerge", "(*internal/sync.Mutex).unlockSlow", "internal/sync.fatal", "internal/sync.runtime_Semrelease"], unfollowed := true, recurses := true, apart := false, narrowed := true }
def AloneUptoSaid : Prop := aloneUptoRow.holds Try.pinned (OpenSpec.upto aloneSpec)

end Rows
end Go.Proofs.Ytekjgjhhjlcoaaa
