/-
  NARROWER THAN 'FOR EVERY INPUT', by the rows' own cells (each row's printed sentence says how): MixedReads: laid · MixedAdds: laid · MixedPairs: laid · MixedCounts: laid · MixedIs: laid · MixedSorts: laid.
  DERIVED. THE GIVEN ROWS OF THIS SEAT. 6 by the template 'for every input the law returns true; each argument reads behind the call as it read before'; 0 by the template 'total and deterministic' (their statements: YtagpdpacaoianaaGreatDoorTotals.lean).
  GIVEN WITH THE SEED: the statements are not yours to turn. If you find one false, say at which input.
  Laid BY PROGRAM, IN A SANDBOX (cutbox-rows.mjs): the forced cells as the released guide's own fill.sh prints them over the translation b7c7122b13597250… (all of the seat's roots in one cut). By AI agents, Wed Nov 11 2026. No macro, syntax, notation, axiom, sorry.
-/
import Derived.Test.YtagpdpacaoianaaGreatDoorChecked
import GoSem.Claim
import GoSem.ClaimJoined
import GoSem.ClaimMapViews
import Derived.JoinedTies
import Derived.KernelRfl
namespace Go.Proofs.YtagpdpacaoianaaGreatDoor
/- THE CELL 'sum', in the pinned program and in every row, IS THE sha256 OF THE DUMP (.gsa) THAT YtagpdpacaoianaaGreatDoorProg.lean LOADS. Nothing in Lean hashes anything: it is a label: what it is worth is what the hold of that sum in a sandbox is worth. -/
noncomputable def Tryz.pinned : Pinned := { name := "ytagpdpacaoianaagreatdoor", sum := "b7c7122b13597250f1c1ae745ad5cf5a4c5b4816aaae4f441502ce4f3d382ffc", checked := Tryz.checked }
namespace Rows
def none {H : Type} : Left H := { results := [], args := [] }

/- WHAT THE LISTED PACKAGE-LEVEL VARIABLES READ AS WHEN THE CALL BEGINS. Each datum BY PROGRAM (the guide's laid-datum.mjs) off the statement by which the dump's own 'gosem.cut.vars' lays the variable. In a bare row this is a premise. The card (YtagpdpacaoianaaGreatDoorCards.lean) ties it to the program's text. -/
def laid_math_bits_deBruijn64tab {H : Type} : DataW H := .agg [.lit (.int .u8 0), .lit (.int .u8 1), .lit (.int .u8 56), .lit (.int .u8 2), .lit (.int .u8 57), .lit (.int .u8 49), .lit (.int .u8 28), .lit (.int .u8 3), .lit (.int .u8 61), .lit (.int .u8 58), .lit (.int .u8 42), .lit (.int .u8 50), .lit (.int .u8 38), .lit (.int .u8 29), .lit (.int .u8 17), .lit (.int .u8 4), .lit (.int .u8 62), .lit (.int .u8 47), .lit (.int .u8 59), .lit (.int .u8 36), .lit (.int .u8 45), .lit (.int .u8 43), .lit (.int .u8 51), .lit (.int .u8 22), .lit (.int .u8 53), .lit (.int .u8 39), .lit (.int .u8 33), .lit (.int .u8 30), .lit (.int .u8 24), .lit (.int .u8 18), .lit (.int .u8 12), .lit (.int .u8 5), .lit (.int .u8 63), .lit (.int .u8 55), .lit (.int .u8 48), .lit (.int .u8 27), .lit (.int .u8 60), .lit (.int .u8 41), .lit (.int .u8 37), .lit (.int .u8 16), .lit (.int .u8 46), .lit (.int .u8 35), .lit (.int .u8 44), .lit (.int .u8 21), .lit (.int .u8 52), .lit (.int .u8 32), .lit (.int .u8 23), .lit (.int .u8 11), .lit (.int .u8 54), .lit (.int .u8 26), .lit (.int .u8 40), .lit (.int .u8 15), .lit (.int .u8 34), .lit (.int .u8 20), .lit (.int .u8 31), .lit (.int .u8 10), .lit (.int .u8 25), .lit (.int .u8 14), .lit (.int .u8 19), .lit (.int .u8 9), .lit (.int .u8 13), .lit (.int .u8 8), .lit (.int .u8 7), .lit (.int .u8 6)]
def laid_parquetry_paren_nothing {H : Type} : DataW H := .agg [.lit (.int .i32 0), .lit (.int .i32 2147483647)]

/-- 'parquetrylaw04.MixedReads': WHATEVER THE INPUT: true; the input reads as it did. -/
def mixedReadsSpec : ChangeSpec := { name := "mixedReads", fn := fun _ => fun
  | [d] => { results := [.lit (.bool true)], args := [d] }
  | _ => none }
def mixedReadsRow : OpenClaim := { program := "ytagpdpacaoianaagreatdoor", sum := "b7c7122b13597250f1c1ae745ad5cf5a4c5b4816aaae4f441502ce4f3d382ffc", func := "parquetry/parquetrylaw04.MixedReads", spec := "mixedReads", inPlace := ["internal/bytealg.IndexByteString", "sync/atomic.AddInt64", "sync/atomic.LoadUint32", "(*internal/sync.Mutex).Lock", "internal/race.Disable", "sync/atomic.CompareAndSwapInt32", "internal/race.Enable", "internal/race.Acquire", "(*internal/sync.Mutex).lockSlow", "internal/sync.runtime_canSpin", "internal/sync.runtime_doSpin", "internal/sync.throw", "internal/sync.runtime_nanotime", "internal/sync.runtime_SemacquireMutex", "sync/atomic.AddInt32", "(*internal/sync.Mutex).Unlock", "internal/race.ReleaseMerge", "(*internal/sync.Mutex).unlockSlow", "internal/sync.fatal", "internal/sync.runtime_Semrelease", "sync/atomic.StoreUint32"], unfollowed := true, recurses := true, named := ["parquetry/paren.nothing", "math/bits.deBruijn64tab"], apart := false, laid := [("math/bits.deBruijn64tab", laid_math_bits_deBruijn64tab), ("parquetry/paren.nothing", laid_parquetry_paren_nothing)] }
def MixedReadsSaid : Prop := mixedReadsRow.holds Tryz.pinned (OpenSpec.ofChange mixedReadsSpec)

/-- ITS FALSE NEIGHBOUR: 'it returns false'. Refute it at one input. -/
def mixedReadsWrong : ChangeSpec := { name := "mixedReads", fn := fun _ => fun
  | [d] => { results := [.lit (.bool false)], args := [d] }
  | _ => none }
def MixedReadsWrongFalsely : Prop := mixedReadsRow.holds Tryz.pinned (OpenSpec.ofChange mixedReadsWrong)

/-- 'parquetrylaw04.MixedAdds': WHATEVER THE INPUT: true; the input reads as it did. -/
def mixedAddsSpec : ChangeSpec := { name := "mixedAdds", fn := fun _ => fun
  | [d1, d2] => { results := [.lit (.bool true)], args := [d1, d2] }
  | _ => none }
def mixedAddsRow : OpenClaim := { program := "ytagpdpacaoianaagreatdoor", sum := "b7c7122b13597250f1c1ae745ad5cf5a4c5b4816aaae4f441502ce4f3d382ffc", func := "parquetry/parquetrylaw04.MixedAdds", spec := "mixedAdds", inPlace := ["internal/bytealg.IndexByteString", "sync/atomic.AddInt64", "sync/atomic.LoadUint32", "(*internal/sync.Mutex).Lock", "internal/race.Disable", "sync/atomic.CompareAndSwapInt32", "internal/race.Enable", "internal/race.Acquire", "(*internal/sync.Mutex).lockSlow", "internal/sync.runtime_canSpin", "internal/sync.runtime_doSpin", "internal/sync.throw", "internal/sync.runtime_nanotime", "internal/sync.runtime_SemacquireMutex", "sync/atomic.AddInt32", "(*internal/sync.Mutex).Unlock", "internal/race.ReleaseMerge", "(*internal/sync.Mutex).unlockSlow", "internal/sync.fatal", "internal/sync.runtime_Semrelease", "sync/atomic.StoreUint32"], unfollowed := true, recurses := true, named := ["parquetry/paren.nothing", "math/bits.deBruijn64tab"], apart := false, laid := [("math/bits.deBruijn64tab", laid_math_bits_deBruijn64tab), ("parquetry/paren.nothing", laid_parquetry_paren_nothing)] }
def MixedAddsSaid : Prop := mixedAddsRow.holds Tryz.pinned (OpenSpec.ofChange mixedAddsSpec)

/-- ITS FALSE NEIGHBOUR: 'it returns false'. Refute it at one input. -/
def mixedAddsWrong : ChangeSpec := { name := "mixedAdds", fn := fun _ => fun
  | [d1, d2] => { results := [.lit (.bool false)], args := [d1, d2] }
  | _ => none }
def MixedAddsWrongFalsely : Prop := mixedAddsRow.holds Tryz.pinned (OpenSpec.ofChange mixedAddsWrong)

/-- 'parquetrylaw04.MixedPairs': WHATEVER THE INPUT: true; the input reads as it did. -/
def mixedPairsSpec : ChangeSpec := { name := "mixedPairs", fn := fun _ => fun
  | [d1, d2, d3] => { results := [.lit (.bool true)], args := [d1, d2, d3] }
  | _ => none }
def mixedPairsRow : OpenClaim := { program := "ytagpdpacaoianaagreatdoor", sum := "b7c7122b13597250f1c1ae745ad5cf5a4c5b4816aaae4f441502ce4f3d382ffc", func := "parquetry/parquetrylaw04.MixedPairs", spec := "mixedPairs", inPlace := ["internal/bytealg.IndexByteString", "sync/atomic.AddInt64", "sync/atomic.LoadUint32", "(*internal/sync.Mutex).Lock", "internal/race.Disable", "sync/atomic.CompareAndSwapInt32", "internal/race.Enable", "internal/race.Acquire", "(*internal/sync.Mutex).lockSlow", "internal/sync.runtime_canSpin", "internal/sync.runtime_doSpin", "internal/sync.throw", "internal/sync.runtime_nanotime", "internal/sync.runtime_SemacquireMutex", "sync/atomic.AddInt32", "(*internal/sync.Mutex).Unlock", "internal/race.ReleaseMerge", "(*internal/sync.Mutex).unlockSlow", "internal/sync.fatal", "internal/sync.runtime_Semrelease", "sync/atomic.StoreUint32"], unfollowed := true, recurses := true, named := ["parquetry/paren.nothing", "math/bits.deBruijn64tab"], apart := false, laid := [("math/bits.deBruijn64tab", laid_math_bits_deBruijn64tab), ("parquetry/paren.nothing", laid_parquetry_paren_nothing)] }
def MixedPairsSaid : Prop := mixedPairsRow.holds Tryz.pinned (OpenSpec.ofChange mixedPairsSpec)

/-- ITS FALSE NEIGHBOUR: 'it returns false'. Refute it at one input. -/
def mixedPairsWrong : ChangeSpec := { name := "mixedPairs", fn := fun _ => fun
  | [d1, d2, d3] => { results := [.lit (.bool false)], args := [d1, d2, d3] }
  | _ => none }
def MixedPairsWrongFalsely : Prop := mixedPairsRow.holds Tryz.pinned (OpenSpec.ofChange mixedPairsWrong)

/-- 'parquetrylaw04.MixedCounts': WHATEVER THE INPUT: true; the input reads as it did. -/
def mixedCountsSpec : ChangeSpec := { name := "mixedCounts", fn := fun _ => fun
  | [d1, d2, d3, d4] => { results := [.lit (.bool true)], args := [d1, d2, d3, d4] }
  | _ => none }
def mixedCountsRow : OpenClaim := { program := "ytagpdpacaoianaagreatdoor", sum := "b7c7122b13597250f1c1ae745ad5cf5a4c5b4816aaae4f441502ce4f3d382ffc", func := "parquetry/parquetrylaw04.MixedCounts", spec := "mixedCounts", inPlace := ["internal/bytealg.IndexByteString", "sync/atomic.AddInt64", "sync/atomic.LoadUint32", "(*internal/sync.Mutex).Lock", "internal/race.Disable", "sync/atomic.CompareAndSwapInt32", "internal/race.Enable", "internal/race.Acquire", "(*internal/sync.Mutex).lockSlow", "internal/sync.runtime_canSpin", "internal/sync.runtime_doSpin", "internal/sync.throw", "internal/sync.runtime_nanotime", "internal/sync.runtime_SemacquireMutex", "sync/atomic.AddInt32", "(*internal/sync.Mutex).Unlock", "internal/race.ReleaseMerge", "(*internal/sync.Mutex).unlockSlow", "internal/sync.fatal", "internal/sync.runtime_Semrelease", "sync/atomic.StoreUint32"], unfollowed := true, recurses := true, named := ["parquetry/paren.nothing", "math/bits.deBruijn64tab"], apart := false, laid := [("math/bits.deBruijn64tab", laid_math_bits_deBruijn64tab), ("parquetry/paren.nothing", laid_parquetry_paren_nothing)] }
def MixedCountsSaid : Prop := mixedCountsRow.holds Tryz.pinned (OpenSpec.ofChange mixedCountsSpec)

/-- ITS FALSE NEIGHBOUR: 'it returns false'. Refute it at one input. -/
def mixedCountsWrong : ChangeSpec := { name := "mixedCounts", fn := fun _ => fun
  | [d1, d2, d3, d4] => { results := [.lit (.bool false)], args := [d1, d2, d3, d4] }
  | _ => none }
def MixedCountsWrongFalsely : Prop := mixedCountsRow.holds Tryz.pinned (OpenSpec.ofChange mixedCountsWrong)

/-- 'parquetrylaw04.MixedIs': WHATEVER THE INPUT: true; the input reads as it did. -/
def mixedIsSpec : ChangeSpec := { name := "mixedIs", fn := fun _ => fun
  | [d1, d2] => { results := [.lit (.bool true)], args := [d1, d2] }
  | _ => none }
def mixedIsRow : OpenClaim := { program := "ytagpdpacaoianaagreatdoor", sum := "b7c7122b13597250f1c1ae745ad5cf5a4c5b4816aaae4f441502ce4f3d382ffc", func := "parquetry/parquetrylaw04.MixedIs", spec := "mixedIs", inPlace := ["internal/bytealg.IndexByteString", "sync/atomic.AddInt64", "sync/atomic.LoadUint32", "(*internal/sync.Mutex).Lock", "internal/race.Disable", "sync/atomic.CompareAndSwapInt32", "internal/race.Enable", "internal/race.Acquire", "(*internal/sync.Mutex).lockSlow", "internal/sync.runtime_canSpin", "internal/sync.runtime_doSpin", "internal/sync.throw", "internal/sync.runtime_nanotime", "internal/sync.runtime_SemacquireMutex", "sync/atomic.AddInt32", "(*internal/sync.Mutex).Unlock", "internal/race.ReleaseMerge", "(*internal/sync.Mutex).unlockSlow", "internal/sync.fatal", "internal/sync.runtime_Semrelease", "sync/atomic.StoreUint32"], unfollowed := true, recurses := true, named := ["parquetry/paren.nothing", "math/bits.deBruijn64tab"], apart := false, laid := [("math/bits.deBruijn64tab", laid_math_bits_deBruijn64tab), ("parquetry/paren.nothing", laid_parquetry_paren_nothing)] }
def MixedIsSaid : Prop := mixedIsRow.holds Tryz.pinned (OpenSpec.ofChange mixedIsSpec)

/-- ITS FALSE NEIGHBOUR: 'it returns false'. Refute it at one input. -/
def mixedIsWrong : ChangeSpec := { name := "mixedIs", fn := fun _ => fun
  | [d1, d2] => { results := [.lit (.bool false)], args := [d1, d2] }
  | _ => none }
def MixedIsWrongFalsely : Prop := mixedIsRow.holds Tryz.pinned (OpenSpec.ofChange mixedIsWrong)

/-- 'parquetrylaw04.MixedSorts': WHATEVER THE INPUT: true; the input reads as it did. -/
def mixedSortsSpec : ChangeSpec := { name := "mixedSorts", fn := fun _ => fun
  | [d1, d2, d3] => { results := [.lit (.bool true)], args := [d1, d2, d3] }
  | _ => none }
def mixedSortsRow : OpenClaim := { program := "ytagpdpacaoianaagreatdoor", sum := "b7c7122b13597250f1c1ae745ad5cf5a4c5b4816aaae4f441502ce4f3d382ffc", func := "parquetry/parquetrylaw04.MixedSorts", spec := "mixedSorts", inPlace := ["internal/bytealg.IndexByteString", "sync/atomic.AddInt64", "sync/atomic.LoadUint32", "(*internal/sync.Mutex).Lock", "internal/race.Disable", "sync/atomic.CompareAndSwapInt32", "internal/race.Enable", "internal/race.Acquire", "(*internal/sync.Mutex).lockSlow", "internal/sync.runtime_canSpin", "internal/sync.runtime_doSpin", "internal/sync.throw", "internal/sync.runtime_nanotime", "internal/sync.runtime_SemacquireMutex", "sync/atomic.AddInt32", "(*internal/sync.Mutex).Unlock", "internal/race.ReleaseMerge", "(*internal/sync.Mutex).unlockSlow", "internal/sync.fatal", "internal/sync.runtime_Semrelease", "sync/atomic.StoreUint32"], unfollowed := true, recurses := true, named := ["parquetry/paren.nothing", "math/bits.deBruijn64tab"], apart := false, laid := [("math/bits.deBruijn64tab", laid_math_bits_deBruijn64tab), ("parquetry/paren.nothing", laid_parquetry_paren_nothing)] }
def MixedSortsSaid : Prop := mixedSortsRow.holds Tryz.pinned (OpenSpec.ofChange mixedSortsSpec)

/-- ITS FALSE NEIGHBOUR: 'it returns false'. Refute it at one input. -/
def mixedSortsWrong : ChangeSpec := { name := "mixedSorts", fn := fun _ => fun
  | [d1, d2, d3] => { results := [.lit (.bool false)], args := [d1, d2, d3] }
  | _ => none }
def MixedSortsWrongFalsely : Prop := mixedSortsRow.holds Tryz.pinned (OpenSpec.ofChange mixedSortsWrong)

/- THE SECOND FORM. 'bulk': how many values and letters a reading holds, each counted each time it is reached (what is shared counts as often as it is met; a slice's spare places count too). A statement '..UptoSaid' is the law's where the arguments, and the package variables that the reading takes, are together of bulk at most 1048576: NARROWER than '..Said'. Prove '..Said' where nothing that the law and all that it calls make is longer than what came in: it says more and counts as full. Else prove '..UptoSaid'. A law counts once. -/
mutual
def uptoBulk {H : Type} : DataW H → Nat
  | .lit (.string bytes) => bytes.length + 1
  | .lit _ => 1
  | .nil => 1
  | .ptr d => uptoBulk d + 1
  | .slice elems spare => uptoBulkAll elems + uptoBulkAll spare + 1
  | .agg parts => uptoBulkAll parts + 1
  | .iface _ d => uptoBulk d + 1
  | .map entries => uptoBulkEntries entries + 1
  | .held _ => 1
def uptoBulkAll {H : Type} : List (DataW H) → Nat
  | [] => 0
  | d :: r => uptoBulk d + uptoBulkAll r
def uptoBulkEntries {H : Type} : List (Lit × DataW H) → Nat
  | [] => 0
  | x :: r => uptoBulkEntry x + uptoBulkEntries r
def uptoBulkEntry {H : Type} : Lit × DataW H → Nat
  | (.string bytes, d) => bytes.length + uptoBulk d + 1
  | (_, d) => uptoBulk d + 1
 end
def uptoSmall : (H : Type) → List (DataW H) → Bool := fun _ ds => decide (uptoBulkAll ds ≤ 1048576)
def OpenSpec.upto (s : _root_.Go.ChangeSpec) : _root_.Go.OpenSpec := { _root_.Go.OpenSpec.ofChange s with cond := some uptoSmall }

/-- 'parquetrylaw04.MixedReads', WHERE WHAT IT READS IS OF BULK AT MOST 1048576: true; the input reads as it did. -/
def mixedReadsUptoRow : OpenClaim := { program := "ytagpdpacaoianaagreatdoor", sum := "b7c7122b13597250f1c1ae745ad5cf5a4c5b4816aaae4f441502ce4f3d382ffc", func := "parquetry/parquetrylaw04.MixedReads", spec := "mixedReads", inPlace := ["internal/bytealg.IndexByteString", "sync/atomic.AddInt64", "sync/atomic.LoadUint32", "(*internal/sync.Mutex).Lock", "internal/race.Disable", "sync/atomic.CompareAndSwapInt32", "internal/race.Enable", "internal/race.Acquire", "(*internal/sync.Mutex).lockSlow", "internal/sync.runtime_canSpin", "internal/sync.runtime_doSpin", "internal/sync.throw", "internal/sync.runtime_nanotime", "internal/sync.runtime_SemacquireMutex", "sync/atomic.AddInt32", "(*internal/sync.Mutex).Unlock", "internal/race.ReleaseMerge", "(*internal/sync.Mutex).unlockSlow", "internal/sync.fatal", "internal/sync.runtime_Semrelease", "sync/atomic.StoreUint32"], unfollowed := true, recurses := true, named := ["parquetry/paren.nothing", "math/bits.deBruijn64tab"], apart := false, laid := [("math/bits.deBruijn64tab", laid_math_bits_deBruijn64tab), ("parquetry/paren.nothing", laid_parquetry_paren_nothing)], narrowed := true }
def MixedReadsUptoSaid : Prop := mixedReadsUptoRow.holds Tryz.pinned (OpenSpec.upto mixedReadsSpec)

/-- 'parquetrylaw04.MixedAdds', WHERE WHAT IT READS IS OF BULK AT MOST 1048576: true; the input reads as it did. -/
def mixedAddsUptoRow : OpenClaim := { program := "ytagpdpacaoianaagreatdoor", sum := "b7c7122b13597250f1c1ae745ad5cf5a4c5b4816aaae4f441502ce4f3d382ffc", func := "parquetry/parquetrylaw04.MixedAdds", spec := "mixedAdds", inPlace := ["internal/bytealg.IndexByteString", "sync/atomic.AddInt64", "sync/atomic.LoadUint32", "(*internal/sync.Mutex).Lock", "internal/race.Disable", "sync/atomic.CompareAndSwapInt32", "internal/race.Enable", "internal/race.Acquire", "(*internal/sync.Mutex).lockSlow", "internal/sync.runtime_canSpin", "internal/sync.runtime_doSpin", "internal/sync.throw", "internal/sync.runtime_nanotime", "internal/sync.runtime_SemacquireMutex", "sync/atomic.AddInt32", "(*internal/sync.Mutex).Unlock", "internal/race.ReleaseMerge", "(*internal/sync.Mutex).unlockSlow", "internal/sync.fatal", "internal/sync.runtime_Semrelease", "sync/atomic.StoreUint32"], unfollowed := true, recurses := true, named := ["parquetry/paren.nothing", "math/bits.deBruijn64tab"], apart := false, laid := [("math/bits.deBruijn64tab", laid_math_bits_deBruijn64tab), ("parquetry/paren.nothing", laid_parquetry_paren_nothing)], narrowed := true }
def MixedAddsUptoSaid : Prop := mixedAddsUptoRow.holds Tryz.pinned (OpenSpec.upto mixedAddsSpec)

/-- 'parquetrylaw04.MixedPairs', WHERE WHAT IT READS IS OF BULK AT MOST 1048576: true; the input reads as it did. -/
def mixedPairsUptoRow : OpenClaim := { program := "ytagpdpacaoianaagreatdoor", sum := "b7c7122b13597250f1c1ae745ad5cf5a4c5b4816aaae4f441502ce4f3d382ffc", func := "parquetry/parquetrylaw04.MixedPairs", spec := "mixedPairs", inPlace := ["internal/bytealg.IndexByteString", "sync/atomic.AddInt64", "sync/atomic.LoadUint32", "(*internal/sync.Mutex).Lock", "internal/race.Disable", "sync/atomic.CompareAndSwapInt32", "internal/race.Enable", "internal/race.Acquire", "(*internal/sync.Mutex).lockSlow", "internal/sync.runtime_canSpin", "internal/sync.runtime_doSpin", "internal/sync.throw", "internal/sync.runtime_nanotime", "internal/sync.runtime_SemacquireMutex", "sync/atomic.AddInt32", "(*internal/sync.Mutex).Unlock", "internal/race.ReleaseMerge", "(*internal/sync.Mutex).unlockSlow", "internal/sync.fatal", "internal/sync.runtime_Semrelease", "sync/atomic.StoreUint32"], unfollowed := true, recurses := true, named := ["parquetry/paren.nothing", "math/bits.deBruijn64tab"], apart := false, laid := [("math/bits.deBruijn64tab", laid_math_bits_deBruijn64tab), ("parquetry/paren.nothing", laid_parquetry_paren_nothing)], narrowed := true }
def MixedPairsUptoSaid : Prop := mixedPairsUptoRow.holds Tryz.pinned (OpenSpec.upto mixedPairsSpec)

/-- 'parquetrylaw04.MixedCounts', WHERE WHAT IT READS IS OF BULK AT MOST 1048576: true; the input reads as it did. -/
def mixedCountsUptoRow : OpenClaim := { program := "ytagpdpacaoianaagreatdoor", sum := "b7c7122b13597250f1c1ae745ad5cf5a4c5b4816aaae4f441502ce4f3d382ffc", func := "parquetry/parquetrylaw04.MixedCounts", spec := "mixedCounts", inPlace := ["internal/bytealg.IndexByteString", "sync/atomic.AddInt64", "sync/atomic.LoadUint32", "(*internal/sync.Mutex).Lock", "internal/race.Disable", "sync/atomic.CompareAndSwapInt32", "internal/race.Enable", "internal/race.Acquire", "(*internal/sync.Mutex).lockSlow", "internal/sync.runtime_canSpin", "internal/sync.runtime_doSpin", "internal/sync.throw", "internal/sync.runtime_nanotime", "internal/sync.runtime_SemacquireMutex", "sync/atomic.AddInt32", "(*internal/sync.Mutex).Unlock", "internal/race.ReleaseMerge", "(*internal/sync.Mutex).unlockSlow", "internal/sync.fatal", "internal/sync.runtime_Semrelease", "sync/atomic.StoreUint32"], unfollowed := true, recurses := true, named := ["parquetry/paren.nothing", "math/bits.deBruijn64tab"], apart := false, laid := [("math/bits.deBruijn64tab", laid_math_bits_deBruijn64tab), ("parquetry/paren.nothing", laid_parquetry_paren_nothing)], narrowed := true }
def MixedCountsUptoSaid : Prop := mixedCountsUptoRow.holds Tryz.pinned (OpenSpec.upto mixedCountsSpec)

/-- 'parquetrylaw04.MixedIs', WHERE WHAT IT READS IS OF BULK AT MOST 1048576: true; the input reads as it did. -/
def mixedIsUptoRow : OpenClaim := { program := "ytagpdpacaoianaagreatdoor", sum := "b7c7122b13597250f1c1ae745ad5cf5a4c5b4816aaae4f441502ce4f3d382ffc", func := "parquetry/parquetrylaw04.MixedIs", spec := "mixedIs", inPlace := ["internal/bytealg.IndexByteString", "sync/atomic.AddInt64", "sync/atomic.LoadUint32", "(*internal/sync.Mutex).Lock", "internal/race.Disable", "sync/atomic.CompareAndSwapInt32", "internal/race.Enable", "internal/race.Acquire", "(*internal/sync.Mutex).lockSlow", "internal/sync.runtime_canSpin", "internal/sync.runtime_doSpin", "internal/sync.throw", "internal/sync.runtime_nanotime", "internal/sync.runtime_SemacquireMutex", "sync/atomic.AddInt32", "(*internal/sync.Mutex).Unlock", "internal/race.ReleaseMerge", "(*internal/sync.Mutex).unlockSlow", "internal/sync.fatal", "internal/sync.runtime_Semrelease", "sync/atomic.StoreUint32"], unfollowed := true, recurses := true, named := ["parquetry/paren.nothing", "math/bits.deBruijn64tab"], apart := false, laid := [("math/bits.deBruijn64tab", laid_math_bits_deBruijn64tab), ("parquetry/paren.nothing", laid_parquetry_paren_nothing)], narrowed := true }
def MixedIsUptoSaid : Prop := mixedIsUptoRow.holds Tryz.pinned (OpenSpec.upto mixedIsSpec)

/-- 'parquetrylaw04.MixedSorts', WHERE WHAT IT READS IS OF BULK AT MOST 1048576: true; the input reads as it did. -/
def mixedSortsUptoRow : OpenClaim := { program := "ytagpdpacaoianaagreatdoor", sum := "b7c7122b13597250f1c1ae745ad5cf5a4c5b4816aaae4f441502ce4f3d382ffc", func := "parquetry/parquetrylaw04.MixedSorts", spec := "mixedSorts", inPlace := ["internal/bytealg.IndexByteString", "sync/atomic.AddInt64", "sync/atomic.LoadUint32", "(*internal/sync.Mutex).Lock", "internal/race.Disable", "sync/atomic.CompareAndSwapInt32", "internal/race.Enable", "internal/race.Acquire", "(*internal/sync.Mutex).lockSlow", "internal/sync.runtime_canSpin", "internal/sync.runtime_doSpin", "internal/sync.throw", "internal/sync.runtime_nanotime", "internal/sync.runtime_SemacquireMutex", "sync/atomic.AddInt32", "(*internal/sync.Mutex).Unlock", "internal/race.ReleaseMerge", "(*internal/sync.Mutex).unlockSlow", "internal/sync.fatal", "internal/sync.runtime_Semrelease", "sync/atomic.StoreUint32"], unfollowed := true, recurses := true, named := ["parquetry/paren.nothing", "math/bits.deBruijn64tab"], apart := false, laid := [("math/bits.deBruijn64tab", laid_math_bits_deBruijn64tab), ("parquetry/paren.nothing", laid_parquetry_paren_nothing)], narrowed := true }
def MixedSortsUptoSaid : Prop := mixedSortsUptoRow.holds Tryz.pinned (OpenSpec.upto mixedSortsSpec)

end Rows
end Go.Proofs.YtagpdpacaoianaaGreatDoor
