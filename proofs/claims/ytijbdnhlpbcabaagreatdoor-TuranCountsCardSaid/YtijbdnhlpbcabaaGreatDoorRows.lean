/-
  NARROWER THAN 'FOR EVERY INPUT', by the rows' own cells (each row's printed sentence says how): TuranCodes: laid · TuranWords: laid · TuranNames: laid · TuranCounts: laid · TuranNil: laid · TuranJoins: laid.
  DERIVED. THE GIVEN ROWS OF THIS SEAT. 6 by the template 'for every input the law returns true; each argument reads behind the call as it read before'; 0 by the template 'total and deterministic' (their statements: YtijbdnhlpbcabaaGreatDoorTotals.lean).
  GIVEN WITH THE SEED: the statements are not yours to turn. If you find one false, say at which input.
  Laid BY PROGRAM, IN A SANDBOX (cutbox-rows.mjs): the forced cells as the released guide's own fill.sh prints them over the translation 9d9dfc93a7d9408b… (all of the seat's roots in one cut). By AI agents, Wed Nov 11 2026. No macro, syntax, notation, axiom, sorry.
-/
import Derived.Test.YtijbdnhlpbcabaaGreatDoorChecked
import GoSem.Claim
import GoSem.ClaimJoined
import GoSem.ClaimMapViews
import Derived.JoinedTies
import Derived.KernelRfl
namespace Go.Proofs.YtijbdnhlpbcabaaGreatDoor
/- THE CELL 'sum', in the pinned program and in every row, IS THE sha256 OF THE DUMP (.gsa) THAT YtijbdnhlpbcabaaGreatDoorProg.lean LOADS. Nothing in Lean hashes anything: it is a label: what it is worth is what the hold of that sum in a sandbox is worth. -/
noncomputable def Tryz.pinned : Pinned := { name := "ytijbdnhlpbcabaagreatdoor", sum := "9d9dfc93a7d9408bbdc60a5e345cc4d75f3122d347ba4d0cead769d18cdd0ccc", checked := Tryz.checked }
namespace Rows
def none {H : Type} : Left H := { results := [], args := [] }

/- WHAT THE LISTED PACKAGE-LEVEL VARIABLES READ AS WHEN THE CALL BEGINS. Each datum BY PROGRAM (the guide's laid-datum.mjs) off the statement by which the dump's own 'gosem.cut.vars' lays the variable. In a bare row this is a premise. The card (YtijbdnhlpbcabaaGreatDoorCards.lean) ties it to the program's text. -/
def laid_math_bits_deBruijn64tab {H : Type} : DataW H := .agg [.lit (.int .u8 0), .lit (.int .u8 1), .lit (.int .u8 56), .lit (.int .u8 2), .lit (.int .u8 57), .lit (.int .u8 49), .lit (.int .u8 28), .lit (.int .u8 3), .lit (.int .u8 61), .lit (.int .u8 58), .lit (.int .u8 42), .lit (.int .u8 50), .lit (.int .u8 38), .lit (.int .u8 29), .lit (.int .u8 17), .lit (.int .u8 4), .lit (.int .u8 62), .lit (.int .u8 47), .lit (.int .u8 59), .lit (.int .u8 36), .lit (.int .u8 45), .lit (.int .u8 43), .lit (.int .u8 51), .lit (.int .u8 22), .lit (.int .u8 53), .lit (.int .u8 39), .lit (.int .u8 33), .lit (.int .u8 30), .lit (.int .u8 24), .lit (.int .u8 18), .lit (.int .u8 12), .lit (.int .u8 5), .lit (.int .u8 63), .lit (.int .u8 55), .lit (.int .u8 48), .lit (.int .u8 27), .lit (.int .u8 60), .lit (.int .u8 41), .lit (.int .u8 37), .lit (.int .u8 16), .lit (.int .u8 46), .lit (.int .u8 35), .lit (.int .u8 44), .lit (.int .u8 21), .lit (.int .u8 52), .lit (.int .u8 32), .lit (.int .u8 23), .lit (.int .u8 11), .lit (.int .u8 54), .lit (.int .u8 26), .lit (.int .u8 40), .lit (.int .u8 15), .lit (.int .u8 34), .lit (.int .u8 20), .lit (.int .u8 31), .lit (.int .u8 10), .lit (.int .u8 25), .lit (.int .u8 14), .lit (.int .u8 19), .lit (.int .u8 9), .lit (.int .u8 13), .lit (.int .u8 8), .lit (.int .u8 7), .lit (.int .u8 6)]
def laid_parquetry_paren_nothing {H : Type} : DataW H := .agg [.lit (.int .i32 0), .lit (.int .i32 2147483647)]

/-- 'parquetrylaw12.TuranCodes': WHATEVER THE INPUT: true; the input reads as it did. -/
def turanCodesSpec : ChangeSpec := { name := "turanCodes", fn := fun _ => fun
  | [d1, d2, d3, d4, d5] => { results := [.lit (.bool true)], args := [d1, d2, d3, d4, d5] }
  | _ => none }
def turanCodesRow : OpenClaim := { program := "ytijbdnhlpbcabaagreatdoor", sum := "9d9dfc93a7d9408bbdc60a5e345cc4d75f3122d347ba4d0cead769d18cdd0ccc", func := "parquetry/parquetrylaw12.TuranCodes", spec := "turanCodes", inPlace := ["internal/bytealg.IndexByteString", "sync/atomic.AddInt64", "sync/atomic.LoadUint32", "(*internal/sync.Mutex).Lock", "internal/race.Disable", "sync/atomic.CompareAndSwapInt32", "internal/race.Enable", "internal/race.Acquire", "(*internal/sync.Mutex).lockSlow", "internal/sync.runtime_canSpin", "internal/sync.runtime_doSpin", "internal/sync.throw", "internal/sync.runtime_nanotime", "internal/sync.runtime_SemacquireMutex", "sync/atomic.AddInt32", "(*internal/sync.Mutex).Unlock", "internal/race.ReleaseMerge", "(*internal/sync.Mutex).unlockSlow", "internal/sync.fatal", "internal/sync.runtime_Semrelease", "sync/atomic.StoreUint32", "slices.overlaps[parquetry/canon.part]"], unfollowed := true, recurses := true, named := ["parquetry/paren.nothing", "math/bits.deBruijn64tab"], apart := false, laid := [("math/bits.deBruijn64tab", laid_math_bits_deBruijn64tab), ("parquetry/paren.nothing", laid_parquetry_paren_nothing)] }
def TuranCodesSaid : Prop := turanCodesRow.holds Tryz.pinned (OpenSpec.ofChange turanCodesSpec)

/-- ITS FALSE NEIGHBOUR: 'it returns false'. Refute it at one input. -/
def turanCodesWrong : ChangeSpec := { name := "turanCodes", fn := fun _ => fun
  | [d1, d2, d3, d4, d5] => { results := [.lit (.bool false)], args := [d1, d2, d3, d4, d5] }
  | _ => none }
def TuranCodesWrongFalsely : Prop := turanCodesRow.holds Tryz.pinned (OpenSpec.ofChange turanCodesWrong)

/-- 'parquetrylaw12.TuranWords': WHATEVER THE INPUT: true; the input reads as it did. -/
def turanWordsSpec : ChangeSpec := { name := "turanWords", fn := fun _ => fun
  | [d1, d2, d3, d4] => { results := [.lit (.bool true)], args := [d1, d2, d3, d4] }
  | _ => none }
def turanWordsRow : OpenClaim := { program := "ytijbdnhlpbcabaagreatdoor", sum := "9d9dfc93a7d9408bbdc60a5e345cc4d75f3122d347ba4d0cead769d18cdd0ccc", func := "parquetry/parquetrylaw12.TuranWords", spec := "turanWords", inPlace := ["internal/bytealg.IndexByteString", "sync/atomic.AddInt64", "sync/atomic.LoadUint32", "(*internal/sync.Mutex).Lock", "internal/race.Disable", "sync/atomic.CompareAndSwapInt32", "internal/race.Enable", "internal/race.Acquire", "(*internal/sync.Mutex).lockSlow", "internal/sync.runtime_canSpin", "internal/sync.runtime_doSpin", "internal/sync.throw", "internal/sync.runtime_nanotime", "internal/sync.runtime_SemacquireMutex", "sync/atomic.AddInt32", "(*internal/sync.Mutex).Unlock", "internal/race.ReleaseMerge", "(*internal/sync.Mutex).unlockSlow", "internal/sync.fatal", "internal/sync.runtime_Semrelease", "sync/atomic.StoreUint32", "slices.overlaps[parquetry/canon.part]"], unfollowed := true, recurses := true, named := ["parquetry/paren.nothing", "math/bits.deBruijn64tab"], apart := false, laid := [("math/bits.deBruijn64tab", laid_math_bits_deBruijn64tab), ("parquetry/paren.nothing", laid_parquetry_paren_nothing)] }
def TuranWordsSaid : Prop := turanWordsRow.holds Tryz.pinned (OpenSpec.ofChange turanWordsSpec)

/-- ITS FALSE NEIGHBOUR: 'it returns false'. Refute it at one input. -/
def turanWordsWrong : ChangeSpec := { name := "turanWords", fn := fun _ => fun
  | [d1, d2, d3, d4] => { results := [.lit (.bool false)], args := [d1, d2, d3, d4] }
  | _ => none }
def TuranWordsWrongFalsely : Prop := turanWordsRow.holds Tryz.pinned (OpenSpec.ofChange turanWordsWrong)

/-- 'parquetrylaw12.TuranNames': WHATEVER THE INPUT: true; the input reads as it did. -/
def turanNamesSpec : ChangeSpec := { name := "turanNames", fn := fun _ => fun
  | [d1, d2, d3] => { results := [.lit (.bool true)], args := [d1, d2, d3] }
  | _ => none }
def turanNamesRow : OpenClaim := { program := "ytijbdnhlpbcabaagreatdoor", sum := "9d9dfc93a7d9408bbdc60a5e345cc4d75f3122d347ba4d0cead769d18cdd0ccc", func := "parquetry/parquetrylaw12.TuranNames", spec := "turanNames", inPlace := ["internal/bytealg.IndexByteString", "sync/atomic.AddInt64", "sync/atomic.LoadUint32", "(*internal/sync.Mutex).Lock", "internal/race.Disable", "sync/atomic.CompareAndSwapInt32", "internal/race.Enable", "internal/race.Acquire", "(*internal/sync.Mutex).lockSlow", "internal/sync.runtime_canSpin", "internal/sync.runtime_doSpin", "internal/sync.throw", "internal/sync.runtime_nanotime", "internal/sync.runtime_SemacquireMutex", "sync/atomic.AddInt32", "(*internal/sync.Mutex).Unlock", "internal/race.ReleaseMerge", "(*internal/sync.Mutex).unlockSlow", "internal/sync.fatal", "internal/sync.runtime_Semrelease", "sync/atomic.StoreUint32"], unfollowed := true, recurses := true, named := ["parquetry/paren.nothing", "math/bits.deBruijn64tab"], apart := false, laid := [("math/bits.deBruijn64tab", laid_math_bits_deBruijn64tab), ("parquetry/paren.nothing", laid_parquetry_paren_nothing)] }
def TuranNamesSaid : Prop := turanNamesRow.holds Tryz.pinned (OpenSpec.ofChange turanNamesSpec)

/-- ITS FALSE NEIGHBOUR: 'it returns false'. Refute it at one input. -/
def turanNamesWrong : ChangeSpec := { name := "turanNames", fn := fun _ => fun
  | [d1, d2, d3] => { results := [.lit (.bool false)], args := [d1, d2, d3] }
  | _ => none }
def TuranNamesWrongFalsely : Prop := turanNamesRow.holds Tryz.pinned (OpenSpec.ofChange turanNamesWrong)

/-- 'parquetrylaw12.TuranCounts': WHATEVER THE INPUT: true; the input reads as it did. -/
def turanCountsSpec : ChangeSpec := { name := "turanCounts", fn := fun _ => fun
  | [d1, d2] => { results := [.lit (.bool true)], args := [d1, d2] }
  | _ => none }
def turanCountsRow : OpenClaim := { program := "ytijbdnhlpbcabaagreatdoor", sum := "9d9dfc93a7d9408bbdc60a5e345cc4d75f3122d347ba4d0cead769d18cdd0ccc", func := "parquetry/parquetrylaw12.TuranCounts", spec := "turanCounts", inPlace := ["internal/bytealg.IndexByteString", "sync/atomic.AddInt64", "sync/atomic.LoadUint32", "(*internal/sync.Mutex).Lock", "internal/race.Disable", "sync/atomic.CompareAndSwapInt32", "internal/race.Enable", "internal/race.Acquire", "(*internal/sync.Mutex).lockSlow", "internal/sync.runtime_canSpin", "internal/sync.runtime_doSpin", "internal/sync.throw", "internal/sync.runtime_nanotime", "internal/sync.runtime_SemacquireMutex", "sync/atomic.AddInt32", "(*internal/sync.Mutex).Unlock", "internal/race.ReleaseMerge", "(*internal/sync.Mutex).unlockSlow", "internal/sync.fatal", "internal/sync.runtime_Semrelease", "sync/atomic.StoreUint32"], unfollowed := true, recurses := true, named := ["parquetry/paren.nothing", "math/bits.deBruijn64tab"], apart := false, laid := [("math/bits.deBruijn64tab", laid_math_bits_deBruijn64tab), ("parquetry/paren.nothing", laid_parquetry_paren_nothing)] }
def TuranCountsSaid : Prop := turanCountsRow.holds Tryz.pinned (OpenSpec.ofChange turanCountsSpec)

/-- ITS FALSE NEIGHBOUR: 'it returns false'. Refute it at one input. -/
def turanCountsWrong : ChangeSpec := { name := "turanCounts", fn := fun _ => fun
  | [d1, d2] => { results := [.lit (.bool false)], args := [d1, d2] }
  | _ => none }
def TuranCountsWrongFalsely : Prop := turanCountsRow.holds Tryz.pinned (OpenSpec.ofChange turanCountsWrong)

/-- 'parquetrylaw12.TuranNil': WHATEVER THE INPUT: true; the input reads as it did. -/
def turanNilSpec : ChangeSpec := { name := "turanNil", fn := fun _ => fun
  | [d] => { results := [.lit (.bool true)], args := [d] }
  | _ => none }
def turanNilRow : OpenClaim := { program := "ytijbdnhlpbcabaagreatdoor", sum := "9d9dfc93a7d9408bbdc60a5e345cc4d75f3122d347ba4d0cead769d18cdd0ccc", func := "parquetry/parquetrylaw12.TuranNil", spec := "turanNil", inPlace := ["internal/bytealg.IndexByteString", "sync/atomic.AddInt64", "sync/atomic.LoadUint32", "(*internal/sync.Mutex).Lock", "internal/race.Disable", "sync/atomic.CompareAndSwapInt32", "internal/race.Enable", "internal/race.Acquire", "(*internal/sync.Mutex).lockSlow", "internal/sync.runtime_canSpin", "internal/sync.runtime_doSpin", "internal/sync.throw", "internal/sync.runtime_nanotime", "internal/sync.runtime_SemacquireMutex", "sync/atomic.AddInt32", "(*internal/sync.Mutex).Unlock", "internal/race.ReleaseMerge", "(*internal/sync.Mutex).unlockSlow", "internal/sync.fatal", "internal/sync.runtime_Semrelease", "sync/atomic.StoreUint32"], unfollowed := true, recurses := true, named := ["parquetry/paren.nothing", "math/bits.deBruijn64tab"], apart := false, laid := [("math/bits.deBruijn64tab", laid_math_bits_deBruijn64tab), ("parquetry/paren.nothing", laid_parquetry_paren_nothing)] }
def TuranNilSaid : Prop := turanNilRow.holds Tryz.pinned (OpenSpec.ofChange turanNilSpec)

/-- ITS FALSE NEIGHBOUR: 'it returns false'. Refute it at one input. -/
def turanNilWrong : ChangeSpec := { name := "turanNil", fn := fun _ => fun
  | [d] => { results := [.lit (.bool false)], args := [d] }
  | _ => none }
def TuranNilWrongFalsely : Prop := turanNilRow.holds Tryz.pinned (OpenSpec.ofChange turanNilWrong)

/-- 'parquetrylaw12.TuranJoins': WHATEVER THE INPUT: true; the input reads as it did. -/
def turanJoinsSpec : ChangeSpec := { name := "turanJoins", fn := fun _ => fun
  | [d1, d2, d3, d4] => { results := [.lit (.bool true)], args := [d1, d2, d3, d4] }
  | _ => none }
def turanJoinsRow : OpenClaim := { program := "ytijbdnhlpbcabaagreatdoor", sum := "9d9dfc93a7d9408bbdc60a5e345cc4d75f3122d347ba4d0cead769d18cdd0ccc", func := "parquetry/parquetrylaw12.TuranJoins", spec := "turanJoins", inPlace := ["internal/bytealg.IndexByteString", "sync/atomic.AddInt64", "sync/atomic.LoadUint32", "(*internal/sync.Mutex).Lock", "internal/race.Disable", "sync/atomic.CompareAndSwapInt32", "internal/race.Enable", "internal/race.Acquire", "(*internal/sync.Mutex).lockSlow", "internal/sync.runtime_canSpin", "internal/sync.runtime_doSpin", "internal/sync.throw", "internal/sync.runtime_nanotime", "internal/sync.runtime_SemacquireMutex", "sync/atomic.AddInt32", "(*internal/sync.Mutex).Unlock", "internal/race.ReleaseMerge", "(*internal/sync.Mutex).unlockSlow", "internal/sync.fatal", "internal/sync.runtime_Semrelease", "sync/atomic.StoreUint32"], unfollowed := true, recurses := true, named := ["parquetry/paren.nothing", "math/bits.deBruijn64tab"], apart := false, laid := [("math/bits.deBruijn64tab", laid_math_bits_deBruijn64tab), ("parquetry/paren.nothing", laid_parquetry_paren_nothing)] }
def TuranJoinsSaid : Prop := turanJoinsRow.holds Tryz.pinned (OpenSpec.ofChange turanJoinsSpec)

/-- ITS FALSE NEIGHBOUR: 'it returns false'. Refute it at one input. -/
def turanJoinsWrong : ChangeSpec := { name := "turanJoins", fn := fun _ => fun
  | [d1, d2, d3, d4] => { results := [.lit (.bool false)], args := [d1, d2, d3, d4] }
  | _ => none }
def TuranJoinsWrongFalsely : Prop := turanJoinsRow.holds Tryz.pinned (OpenSpec.ofChange turanJoinsWrong)

/- THE SECOND FORM. 'bulk': how many values and letters a reading holds, each counted each time it is reached (what is shared counts as often as it is met; a slice's spare places count too). A statement '..UptoSaid' is the law's where the arguments, and the package variables that the reading takes, are together of bulk at most 1048576: NARROWER than '..Said'. Prove '..Said' where nothing that the law and all that it calls make is longer than what came in: it says more and counts as full. Else prove '..UptoSaid'. A law counts once. -/
mutual
def uptoBulk {H : Type} : DataW H → Nat
  | .lit (.string bytes) => bytes.length + 1
  | .lit _ => 1
  | .nil => 1
  | .ptr d => uptoBulk d + 1
  | .slice elems spare => uptoBulkAll elems + uptoBulkAll spare + 1
  | .agg parts => uptoBulkAll parts + 1
  | .iface _ d => uptoBulk d + 1
  | .map entries => uptoBulkEntries entries + 1
  | .held _ => 1
def uptoBulkAll {H : Type} : List (DataW H) → Nat
  | [] => 0
  | d :: r => uptoBulk d + uptoBulkAll r
def uptoBulkEntries {H : Type} : List (Lit × DataW H) → Nat
  | [] => 0
  | x :: r => uptoBulkEntry x + uptoBulkEntries r
def uptoBulkEntry {H : Type} : Lit × DataW H → Nat
  | (.string bytes, d) => bytes.length + uptoBulk d + 1
  | (_, d) => uptoBulk d + 1
 end
def uptoSmall : (H : Type) → List (DataW H) → Bool := fun _ ds => decide (uptoBulkAll ds ≤ 1048576)
def OpenSpec.upto (s : _root_.Go.ChangeSpec) : _root_.Go.OpenSpec := { _root_.Go.OpenSpec.ofChange s with cond := some uptoSmall }

/-- 'parquetrylaw12.TuranCodes', WHERE WHAT IT READS IS OF BULK AT MOST 1048576: true; the input reads as it did. -/
def turanCodesUptoRow : OpenClaim := { program := "ytijbdnhlpbcabaagreatdoor", sum := "9d9dfc93a7d9408bbdc60a5e345cc4d75f3122d347ba4d0cead769d18cdd0ccc", func := "parquetry/parquetrylaw12.TuranCodes", spec := "turanCodes", inPlace := ["internal/bytealg.IndexByteString", "sync/atomic.AddInt64", "sync/atomic.LoadUint32", "(*internal/sync.Mutex).Lock", "internal/race.Disable", "sync/atomic.CompareAndSwapInt32", "internal/race.Enable", "internal/race.Acquire", "(*internal/sync.Mutex).lockSlow", "internal/sync.runtime_canSpin", "internal/sync.runtime_doSpin", "internal/sync.throw", "internal/sync.runtime_nanotime", "internal/sync.runtime_SemacquireMutex", "sync/atomic.AddInt32", "(*internal/sync.Mutex).Unlock", "internal/race.ReleaseMerge", "(*internal/sync.Mutex).unlockSlow", "internal/sync.fatal", "internal/sync.runtime_Semrelease", "sync/atomic.StoreUint32", "slices.overlaps[parquetry/canon.part]"], unfollowed := true, recurses := true, named := ["parquetry/paren.nothing", "math/bits.deBruijn64tab"], apart := false, laid := [("math/bits.deBruijn64tab", laid_math_bits_deBruijn64tab), ("parquetry/paren.nothing", laid_parquetry_paren_nothing)], narrowed := true }
def TuranCodesUptoSaid : Prop := turanCodesUptoRow.holds Tryz.pinned (OpenSpec.upto turanCodesSpec)

/-- 'parquetrylaw12.TuranWords', WHERE WHAT IT READS IS OF BULK AT MOST 1048576: true; the input reads as it did. -/
def turanWordsUptoRow : OpenClaim := { program := "ytijbdnhlpbcabaagreatdoor", sum := "9d9dfc93a7d9408bbdc60a5e345cc4d75f3122d347ba4d0cead769d18cdd0ccc", func := "parquetry/parquetrylaw12.TuranWords", spec := "turanWords", inPlace := ["internal/bytealg.IndexByteString", "sync/atomic.AddInt64", "sync/atomic.LoadUint32", "(*internal/sync.Mutex).Lock", "internal/race.Disable", "sync/atomic.CompareAndSwapInt32", "internal/race.Enable", "internal/race.Acquire", "(*internal/sync.Mutex).lockSlow", "internal/sync.runtime_canSpin", "internal/sync.runtime_doSpin", "internal/sync.throw", "internal/sync.runtime_nanotime", "internal/sync.runtime_SemacquireMutex", "sync/atomic.AddInt32", "(*internal/sync.Mutex).Unlock", "internal/race.ReleaseMerge", "(*internal/sync.Mutex).unlockSlow", "internal/sync.fatal", "internal/sync.runtime_Semrelease", "sync/atomic.StoreUint32", "slices.overlaps[parquetry/canon.part]"], unfollowed := true, recurses := true, named := ["parquetry/paren.nothing", "math/bits.deBruijn64tab"], apart := false, laid := [("math/bits.deBruijn64tab", laid_math_bits_deBruijn64tab), ("parquetry/paren.nothing", laid_parquetry_paren_nothing)], narrowed := true }
def TuranWordsUptoSaid : Prop := turanWordsUptoRow.holds Tryz.pinned (OpenSpec.upto turanWordsSpec)

/-- 'parquetrylaw12.TuranNames', WHERE WHAT IT READS IS OF BULK AT MOST 1048576: true; the input reads as it did. -/
def turanNamesUptoRow : OpenClaim := { program := "ytijbdnhlpbcabaagreatdoor", sum := "9d9dfc93a7d9408bbdc60a5e345cc4d75f3122d347ba4d0cead769d18cdd0ccc", func := "parquetry/parquetrylaw12.TuranNames", spec := "turanNames", inPlace := ["internal/bytealg.IndexByteString", "sync/atomic.AddInt64", "sync/atomic.LoadUint32", "(*internal/sync.Mutex).Lock", "internal/race.Disable", "sync/atomic.CompareAndSwapInt32", "internal/race.Enable", "internal/race.Acquire", "(*internal/sync.Mutex).lockSlow", "internal/sync.runtime_canSpin", "internal/sync.runtime_doSpin", "internal/sync.throw", "internal/sync.runtime_nanotime", "internal/sync.runtime_SemacquireMutex", "sync/atomic.AddInt32", "(*internal/sync.Mutex).Unlock", "internal/race.ReleaseMerge", "(*internal/sync.Mutex).unlockSlow", "internal/sync.fatal", "internal/sync.runtime_Semrelease", "sync/atomic.StoreUint32"], unfollowed := true, recurses := true, named := ["parquetry/paren.nothing", "math/bits.deBruijn64tab"], apart := false, laid := [("math/bits.deBruijn64tab", laid_math_bits_deBruijn64tab), ("parquetry/paren.nothing", laid_parquetry_paren_nothing)], narrowed := true }
def TuranNamesUptoSaid : Prop := turanNamesUptoRow.holds Tryz.pinned (OpenSpec.upto turanNamesSpec)

/-- 'parquetrylaw12.TuranCounts', WHERE WHAT IT READS IS OF BULK AT MOST 1048576: true; the input reads as it did. -/
def turanCountsUptoRow : OpenClaim := { program := "ytijbdnhlpbcabaagreatdoor", sum := "9d9dfc93a7d9408bbdc60a5e345cc4d75f3122d347ba4d0cead769d18cdd0ccc", func := "parquetry/parquetrylaw12.TuranCounts", spec := "turanCounts", inPlace := ["internal/bytealg.IndexByteString", "sync/atomic.AddInt64", "sync/atomic.LoadUint32", "(*internal/sync.Mutex).Lock", "internal/race.Disable", "sync/atomic.CompareAndSwapInt32", "internal/race.Enable", "internal/race.Acquire", "(*internal/sync.Mutex).lockSlow", "internal/sync.runtime_canSpin", "internal/sync.runtime_doSpin", "internal/sync.throw", "internal/sync.runtime_nanotime", "internal/sync.runtime_SemacquireMutex", "sync/atomic.AddInt32", "(*internal/sync.Mutex).Unlock", "internal/race.ReleaseMerge", "(*internal/sync.Mutex).unlockSlow", "internal/sync.fatal", "internal/sync.runtime_Semrelease", "sync/atomic.StoreUint32"], unfollowed := true, recurses := true, named := ["parquetry/paren.nothing", "math/bits.deBruijn64tab"], apart := false, laid := [("math/bits.deBruijn64tab", laid_math_bits_deBruijn64tab), ("parquetry/paren.nothing", laid_parquetry_paren_nothing)], narrowed := true }
def TuranCountsUptoSaid : Prop := turanCountsUptoRow.holds Tryz.pinned (OpenSpec.upto turanCountsSpec)

/-- 'parquetrylaw12.TuranNil', WHERE WHAT IT READS IS OF BULK AT MOST 1048576: true; the input reads as it did. -/
def turanNilUptoRow : OpenClaim := { program := "ytijbdnhlpbcabaagreatdoor", sum := "9d9dfc93a7d9408bbdc60a5e345cc4d75f3122d347ba4d0cead769d18cdd0ccc", func := "parquetry/parquetrylaw12.TuranNil", spec := "turanNil", inPlace := ["internal/bytealg.IndexByteString", "sync/atomic.AddInt64", "sync/atomic.LoadUint32", "(*internal/sync.Mutex).Lock", "internal/race.Disable", "sync/atomic.CompareAndSwapInt32", "internal/race.Enable", "internal/race.Acquire", "(*internal/sync.Mutex).lockSlow", "internal/sync.runtime_canSpin", "internal/sync.runtime_doSpin", "internal/sync.throw", "internal/sync.runtime_nanotime", "internal/sync.runtime_SemacquireMutex", "sync/atomic.AddInt32", "(*internal/sync.Mutex).Unlock", "internal/race.ReleaseMerge", "(*internal/sync.Mutex).unlockSlow", "internal/sync.fatal", "internal/sync.runtime_Semrelease", "sync/atomic.StoreUint32"], unfollowed := true, recurses := true, named := ["parquetry/paren.nothing", "math/bits.deBruijn64tab"], apart := false, laid := [("math/bits.deBruijn64tab", laid_math_bits_deBruijn64tab), ("parquetry/paren.nothing", laid_parquetry_paren_nothing)], narrowed := true }
def TuranNilUptoSaid : Prop := turanNilUptoRow.holds Tryz.pinned (OpenSpec.upto turanNilSpec)

/-- 'parquetrylaw12.TuranJoins', WHERE WHAT IT READS IS OF BULK AT MOST 1048576: true; the input reads as it did. -/
def turanJoinsUptoRow : OpenClaim := { program := "ytijbdnhlpbcabaagreatdoor", sum := "9d9dfc93a7d9408bbdc60a5e345cc4d75f3122d347ba4d0cead769d18cdd0ccc", func := "parquetry/parquetrylaw12.TuranJoins", spec := "turanJoins", inPlace := ["internal/bytealg.IndexByteString", "sync/atomic.AddInt64", "sync/atomic.LoadUint32", "(*internal/sync.Mutex).Lock", "internal/race.Disable", "sync/atomic.CompareAndSwapInt32", "internal/race.Enable", "internal/race.Acquire", "(*internal/sync.Mutex).lockSlow", "internal/sync.runtime_canSpin", "internal/sync.runtime_doSpin", "internal/sync.throw", "internal/sync.runtime_nanotime", "internal/sync.runtime_SemacquireMutex", "sync/atomic.AddInt32", "(*internal/sync.Mutex).Unlock", "internal/race.ReleaseMerge", "(*internal/sync.Mutex).unlockSlow", "internal/sync.fatal", "internal/sync.runtime_Semrelease", "sync/atomic.StoreUint32"], unfollowed := true, recurses := true, named := ["parquetry/paren.nothing", "math/bits.deBruijn64tab"], apart := false, laid := [("math/bits.deBruijn64tab", laid_math_bits_deBruijn64tab), ("parquetry/paren.nothing", laid_parquetry_paren_nothing)], narrowed := true }
def TuranJoinsUptoSaid : Prop := turanJoinsUptoRow.holds Tryz.pinned (OpenSpec.upto turanJoinsSpec)

end Rows
end Go.Proofs.YtijbdnhlpbcabaaGreatDoor
