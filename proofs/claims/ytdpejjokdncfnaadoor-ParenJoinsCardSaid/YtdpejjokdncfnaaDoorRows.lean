/-
  NARROWER THAN 'FOR EVERY INPUT', by the rows' own cells (each row's printed sentence says how): ParenIs: laid · ParenPairs: laid · ParenLows: laid · ParenOnce: laid · ParenJoins: laid.
  DERIVED. THE GIVEN ROWS OF THIS SEAT. 5 by the template 'for every input the law returns true; each argument reads behind the call as it read before'; 0 by the template 'total and deterministic' (their statements: YtdpejjokdncfnaaDoorTotals.lean).
  GIVEN WITH THE SEED: the statements are not yours to turn. If you find one false, say at which input.
  Laid BY PROGRAM, IN A SANDBOX (cutbox-rows.mjs): the forced cells as the released guide's own fill.sh prints them over the translation 3b2d237767662710… (all of the seat's roots in one cut). By AI agents, Wed Nov 11 2026. No macro, syntax, notation, axiom, sorry.
-/
import Derived.Test.YtdpejjokdncfnaaDoorChecked
import GoSem.Claim
import GoSem.ClaimJoined
import GoSem.ClaimMapViews
import Derived.JoinedTies
import Derived.KernelRfl
namespace Go.Proofs.YtdpejjokdncfnaaDoor
/- THE CELL 'sum', in the pinned program and in every row, IS THE sha256 OF THE DUMP (.gsa) THAT YtdpejjokdncfnaaDoorProg.lean LOADS. Nothing in Lean hashes anything: it is a label: what it is worth is what the hold of that sum in a sandbox is worth. -/
noncomputable def Tryd.pinned : Pinned := { name := "ytdpejjokdncfnaadoor", sum := "3b2d23776766271065fad5d556212e571da7a212446d6bc082ecb4e9928810b0", checked := Tryd.checked }
namespace Rows
def none {H : Type} : Left H := { results := [], args := [] }

/- WHAT THE LISTED PACKAGE-LEVEL VARIABLES READ AS WHEN THE CALL BEGINS. Each datum BY PROGRAM (the guide's laid-datum.mjs) off the statement by which the dump's own 'gosem.cut.vars' lays the variable. In a bare row this is a premise. The card (YtdpejjokdncfnaaDoorCards.lean) ties it to the program's text. -/
def laid_parquetry_paren_nothing {H : Type} : DataW H := .agg [.lit (.int .i32 0), .lit (.int .i32 2147483647)]

/-- 'parquetrylaw03.ParenIs': WHATEVER THE INPUT: true; the input reads as it did. -/
def parenIsSpec : ChangeSpec := { name := "parenIs", fn := fun _ => fun
  | [d1, d2] => { results := [.lit (.bool true)], args := [d1, d2] }
  | _ => none }
def parenIsRow : OpenClaim := { program := "ytdpejjokdncfnaadoor", sum := "3b2d23776766271065fad5d556212e571da7a212446d6bc082ecb4e9928810b0", func := "parquetry/parquetrylaw03.ParenIs", spec := "parenIs", inPlace := ["sync/atomic.AddInt64", "sync/atomic.LoadUint32", "(*internal/sync.Mutex).Lock", "internal/race.Disable", "sync/atomic.CompareAndSwapInt32", "internal/race.Enable", "internal/race.Acquire", "(*internal/sync.Mutex).lockSlow", "internal/sync.runtime_canSpin", "internal/sync.runtime_doSpin", "internal/sync.throw", "internal/sync.runtime_nanotime", "internal/sync.runtime_SemacquireMutex", "sync/atomic.AddInt32", "(*internal/sync.Mutex).Unlock", "internal/race.ReleaseMerge", "(*internal/sync.Mutex).unlockSlow", "internal/sync.fatal", "internal/sync.runtime_Semrelease", "sync/atomic.StoreUint32"], unfollowed := true, recurses := true, named := ["parquetry/paren.nothing"], apart := false, laid := [("parquetry/paren.nothing", laid_parquetry_paren_nothing)] }
def ParenIsSaid : Prop := parenIsRow.holds Tryd.pinned (OpenSpec.ofChange parenIsSpec)

/-- ITS FALSE NEIGHBOUR: 'it returns false'. Refute it at one input. -/
def parenIsWrong : ChangeSpec := { name := "parenIs", fn := fun _ => fun
  | [d1, d2] => { results := [.lit (.bool false)], args := [d1, d2] }
  | _ => none }
def ParenIsWrongFalsely : Prop := parenIsRow.holds Tryd.pinned (OpenSpec.ofChange parenIsWrong)

/-- 'parquetrylaw03.ParenPairs': WHATEVER THE INPUT: true; the input reads as it did. -/
def parenPairsSpec : ChangeSpec := { name := "parenPairs", fn := fun _ => fun
  | [d1, d2, d3] => { results := [.lit (.bool true)], args := [d1, d2, d3] }
  | _ => none }
def parenPairsRow : OpenClaim := { program := "ytdpejjokdncfnaadoor", sum := "3b2d23776766271065fad5d556212e571da7a212446d6bc082ecb4e9928810b0", func := "parquetry/parquetrylaw03.ParenPairs", spec := "parenPairs", inPlace := ["sync/atomic.AddInt64", "sync/atomic.LoadUint32", "(*internal/sync.Mutex).Lock", "internal/race.Disable", "sync/atomic.CompareAndSwapInt32", "internal/race.Enable", "internal/race.Acquire", "(*internal/sync.Mutex).lockSlow", "internal/sync.runtime_canSpin", "internal/sync.runtime_doSpin", "internal/sync.throw", "internal/sync.runtime_nanotime", "internal/sync.runtime_SemacquireMutex", "sync/atomic.AddInt32", "(*internal/sync.Mutex).Unlock", "internal/race.ReleaseMerge", "(*internal/sync.Mutex).unlockSlow", "internal/sync.fatal", "internal/sync.runtime_Semrelease", "sync/atomic.StoreUint32"], unfollowed := true, recurses := true, named := ["parquetry/paren.nothing"], apart := false, laid := [("parquetry/paren.nothing", laid_parquetry_paren_nothing)] }
def ParenPairsSaid : Prop := parenPairsRow.holds Tryd.pinned (OpenSpec.ofChange parenPairsSpec)

/-- ITS FALSE NEIGHBOUR: 'it returns false'. Refute it at one input. -/
def parenPairsWrong : ChangeSpec := { name := "parenPairs", fn := fun _ => fun
  | [d1, d2, d3] => { results := [.lit (.bool false)], args := [d1, d2, d3] }
  | _ => none }
def ParenPairsWrongFalsely : Prop := parenPairsRow.holds Tryd.pinned (OpenSpec.ofChange parenPairsWrong)

/-- 'parquetrylaw03.ParenLows': WHATEVER THE INPUT: true; the input reads as it did. -/
def parenLowsSpec : ChangeSpec := { name := "parenLows", fn := fun _ => fun
  | [d1, d2, d3, d4] => { results := [.lit (.bool true)], args := [d1, d2, d3, d4] }
  | _ => none }
def parenLowsRow : OpenClaim := { program := "ytdpejjokdncfnaadoor", sum := "3b2d23776766271065fad5d556212e571da7a212446d6bc082ecb4e9928810b0", func := "parquetry/parquetrylaw03.ParenLows", spec := "parenLows", inPlace := ["sync/atomic.AddInt64", "sync/atomic.LoadUint32", "(*internal/sync.Mutex).Lock", "internal/race.Disable", "sync/atomic.CompareAndSwapInt32", "internal/race.Enable", "internal/race.Acquire", "(*internal/sync.Mutex).lockSlow", "internal/sync.runtime_canSpin", "internal/sync.runtime_doSpin", "internal/sync.throw", "internal/sync.runtime_nanotime", "internal/sync.runtime_SemacquireMutex", "sync/atomic.AddInt32", "(*internal/sync.Mutex).Unlock", "internal/race.ReleaseMerge", "(*internal/sync.Mutex).unlockSlow", "internal/sync.fatal", "internal/sync.runtime_Semrelease", "sync/atomic.StoreUint32"], unfollowed := true, recurses := true, named := ["parquetry/paren.nothing"], apart := false, laid := [("parquetry/paren.nothing", laid_parquetry_paren_nothing)] }
def ParenLowsSaid : Prop := parenLowsRow.holds Tryd.pinned (OpenSpec.ofChange parenLowsSpec)

/-- ITS FALSE NEIGHBOUR: 'it returns false'. Refute it at one input. -/
def parenLowsWrong : ChangeSpec := { name := "parenLows", fn := fun _ => fun
  | [d1, d2, d3, d4] => { results := [.lit (.bool false)], args := [d1, d2, d3, d4] }
  | _ => none }
def ParenLowsWrongFalsely : Prop := parenLowsRow.holds Tryd.pinned (OpenSpec.ofChange parenLowsWrong)

/-- 'parquetrylaw03.ParenOnce': WHATEVER THE INPUT: true; the input reads as it did. -/
def parenOnceSpec : ChangeSpec := { name := "parenOnce", fn := fun _ => fun
  | [d1, d2, d3] => { results := [.lit (.bool true)], args := [d1, d2, d3] }
  | _ => none }
def parenOnceRow : OpenClaim := { program := "ytdpejjokdncfnaadoor", sum := "3b2d23776766271065fad5d556212e571da7a212446d6bc082ecb4e9928810b0", func := "parquetry/parquetrylaw03.ParenOnce", spec := "parenOnce", inPlace := ["sync/atomic.AddInt64", "sync/atomic.LoadUint32", "(*internal/sync.Mutex).Lock", "internal/race.Disable", "sync/atomic.CompareAndSwapInt32", "internal/race.Enable", "internal/race.Acquire", "(*internal/sync.Mutex).lockSlow", "internal/sync.runtime_canSpin", "internal/sync.runtime_doSpin", "internal/sync.throw", "internal/sync.runtime_nanotime", "internal/sync.runtime_SemacquireMutex", "sync/atomic.AddInt32", "(*internal/sync.Mutex).Unlock", "internal/race.ReleaseMerge", "(*internal/sync.Mutex).unlockSlow", "internal/sync.fatal", "internal/sync.runtime_Semrelease", "sync/atomic.StoreUint32", "sync/atomic.LoadInt64"], unfollowed := true, recurses := true, named := ["parquetry/paren.nothing"], apart := false, laid := [("parquetry/paren.nothing", laid_parquetry_paren_nothing)] }
def ParenOnceSaid : Prop := parenOnceRow.holds Tryd.pinned (OpenSpec.ofChange parenOnceSpec)

/-- ITS FALSE NEIGHBOUR: 'it returns false'. Refute it at one input. -/
def parenOnceWrong : ChangeSpec := { name := "parenOnce", fn := fun _ => fun
  | [d1, d2, d3] => { results := [.lit (.bool false)], args := [d1, d2, d3] }
  | _ => none }
def ParenOnceWrongFalsely : Prop := parenOnceRow.holds Tryd.pinned (OpenSpec.ofChange parenOnceWrong)

/-- 'parquetrylaw03.ParenJoins': WHATEVER THE INPUT: true; the input reads as it did. -/
def parenJoinsSpec : ChangeSpec := { name := "parenJoins", fn := fun _ => fun
  | [d1, d2, d3, d4, d5] => { results := [.lit (.bool true)], args := [d1, d2, d3, d4, d5] }
  | _ => none }
def parenJoinsRow : OpenClaim := { program := "ytdpejjokdncfnaadoor", sum := "3b2d23776766271065fad5d556212e571da7a212446d6bc082ecb4e9928810b0", func := "parquetry/parquetrylaw03.ParenJoins", spec := "parenJoins", inPlace := ["sync/atomic.AddInt64", "sync/atomic.LoadUint32", "(*internal/sync.Mutex).Lock", "internal/race.Disable", "sync/atomic.CompareAndSwapInt32", "internal/race.Enable", "internal/race.Acquire", "(*internal/sync.Mutex).lockSlow", "internal/sync.runtime_canSpin", "internal/sync.runtime_doSpin", "internal/sync.throw", "internal/sync.runtime_nanotime", "internal/sync.runtime_SemacquireMutex", "sync/atomic.AddInt32", "(*internal/sync.Mutex).Unlock", "internal/race.ReleaseMerge", "(*internal/sync.Mutex).unlockSlow", "internal/sync.fatal", "internal/sync.runtime_Semrelease", "sync/atomic.StoreUint32"], unfollowed := true, recurses := true, named := ["parquetry/paren.nothing"], apart := false, laid := [("parquetry/paren.nothing", laid_parquetry_paren_nothing)] }
def ParenJoinsSaid : Prop := parenJoinsRow.holds Tryd.pinned (OpenSpec.ofChange parenJoinsSpec)

/-- ITS FALSE NEIGHBOUR: 'it returns false'. Refute it at one input. -/
def parenJoinsWrong : ChangeSpec := { name := "parenJoins", fn := fun _ => fun
  | [d1, d2, d3, d4, d5] => { results := [.lit (.bool false)], args := [d1, d2, d3, d4, d5] }
  | _ => none }
def ParenJoinsWrongFalsely : Prop := parenJoinsRow.holds Tryd.pinned (OpenSpec.ofChange parenJoinsWrong)

/- THE SECOND FORM. 'bulk': how many values and letters a reading holds, each counted each time it is reached (what is shared counts as often as it is met; a slice's spare places count too). A statement '..UptoSaid' is the law's where the arguments, and the package variables that the reading takes, are together of bulk at most 1048576: NARROWER than '..Said'. Prove '..Said' where nothing that the law and all that it calls make is longer than what came in: it says more and counts as full. Else prove '..UptoSaid'. A law counts once. -/
mutual
def uptoBulk {H : Type} : DataW H → Nat
  | .lit (.string bytes) => bytes.length + 1
  | .lit _ => 1
  | .nil => 1
  | .ptr d => uptoBulk d + 1
  | .slice elems spare => uptoBulkAll elems + uptoBulkAll spare + 1
  | .agg parts => uptoBulkAll parts + 1
  | .iface _ d => uptoBulk d + 1
  | .map entries => uptoBulkEntries entries + 1
  | .held _ => 1
def uptoBulkAll {H : Type} : List (DataW H) → Nat
  | [] => 0
  | d :: r => uptoBulk d + uptoBulkAll r
def uptoBulkEntries {H : Type} : List (Lit × DataW H) → Nat
  | [] => 0
  | x :: r => uptoBulkEntry x + uptoBulkEntries r
def uptoBulkEntry {H : Type} : Lit × DataW H → Nat
  | (.string bytes, d) => bytes.length + uptoBulk d + 1
  | (_, d) => uptoBulk d + 1
 end
def uptoSmall : (H : Type) → List (DataW H) → Bool := fun _ ds => decide (uptoBulkAll ds ≤ 1048576)
def OpenSpec.upto (s : _root_.Go.ChangeSpec) : _root_.Go.OpenSpec := { _root_.Go.OpenSpec.ofChange s with cond := some uptoSmall }

/-- 'parquetrylaw03.ParenIs', WHERE WHAT IT READS IS OF BULK AT MOST 1048576: true; the input reads as it did. -/
def parenIsUptoRow : OpenClaim := { program := "ytdpejjokdncfnaadoor", sum := "3b2d23776766271065fad5d556212e571da7a212446d6bc082ecb4e9928810b0", func := "parquetry/parquetrylaw03.ParenIs", spec := "parenIs", inPlace := ["sync/atomic.AddInt64", "sync/atomic.LoadUint32", "(*internal/sync.Mutex).Lock", "internal/race.Disable", "sync/atomic.CompareAndSwapInt32", "internal/race.Enable", "internal/race.Acquire", "(*internal/sync.Mutex).lockSlow", "internal/sync.runtime_canSpin", "internal/sync.runtime_doSpin", "internal/sync.throw", "internal/sync.runtime_nanotime", "internal/sync.runtime_SemacquireMutex", "sync/atomic.AddInt32", "(*internal/sync.Mutex).Unlock", "internal/race.ReleaseMerge", "(*internal/sync.Mutex).unlockSlow", "internal/sync.fatal", "internal/sync.runtime_Semrelease", "sync/atomic.StoreUint32"], unfollowed := true, recurses := true, named := ["parquetry/paren.nothing"], apart := false, laid := [("parquetry/paren.nothing", laid_parquetry_paren_nothing)], narrowed := true }
def ParenIsUptoSaid : Prop := parenIsUptoRow.holds Tryd.pinned (OpenSpec.upto parenIsSpec)

/-- 'parquetrylaw03.ParenPairs', WHERE WHAT IT READS IS OF BULK AT MOST 1048576: true; the input reads as it did. -/
def parenPairsUptoRow : OpenClaim := { program := "ytdpejjokdncfnaadoor", sum := "3b2d23776766271065fad5d556212e571da7a212446d6bc082ecb4e9928810b0", func := "parquetry/parquetrylaw03.ParenPairs", spec := "parenPairs", inPlace := ["sync/atomic.AddInt64", "sync/atomic.LoadUint32", "(*internal/sync.Mutex).Lock", "internal/race.Disable", "sync/atomic.CompareAndSwapInt32", "internal/race.Enable", "internal/race.Acquire", "(*internal/sync.Mutex).lockSlow", "internal/sync.runtime_canSpin", "internal/sync.runtime_doSpin", "internal/sync.throw", "internal/sync.runtime_nanotime", "internal/sync.runtime_SemacquireMutex", "sync/atomic.AddInt32", "(*internal/sync.Mutex).Unlock", "internal/race.ReleaseMerge", "(*internal/sync.Mutex).unlockSlow", "internal/sync.fatal", "internal/sync.runtime_Semrelease", "sync/atomic.StoreUint32"], unfollowed := true, recurses := true, named := ["parquetry/paren.nothing"], apart := false, laid := [("parquetry/paren.nothing", laid_parquetry_paren_nothing)], narrowed := true }
def ParenPairsUptoSaid : Prop := parenPairsUptoRow.holds Tryd.pinned (OpenSpec.upto parenPairsSpec)

/-- 'parquetrylaw03.ParenLows', WHERE WHAT IT READS IS OF BULK AT MOST 1048576: true; the input reads as it did. -/
def parenLowsUptoRow : OpenClaim := { program := "ytdpejjokdncfnaadoor", sum := "3b2d23776766271065fad5d556212e571da7a212446d6bc082ecb4e9928810b0", func := "parquetry/parquetrylaw03.ParenLows", spec := "parenLows", inPlace := ["sync/atomic.AddInt64", "sync/atomic.LoadUint32", "(*internal/sync.Mutex).Lock", "internal/race.Disable", "sync/atomic.CompareAndSwapInt32", "internal/race.Enable", "internal/race.Acquire", "(*internal/sync.Mutex).lockSlow", "internal/sync.runtime_canSpin", "internal/sync.runtime_doSpin", "internal/sync.throw", "internal/sync.runtime_nanotime", "internal/sync.runtime_SemacquireMutex", "sync/atomic.AddInt32", "(*internal/sync.Mutex).Unlock", "internal/race.ReleaseMerge", "(*internal/sync.Mutex).unlockSlow", "internal/sync.fatal", "internal/sync.runtime_Semrelease", "sync/atomic.StoreUint32"], unfollowed := true, recurses := true, named := ["parquetry/paren.nothing"], apart := false, laid := [("parquetry/paren.nothing", laid_parquetry_paren_nothing)], narrowed := true }
def ParenLowsUptoSaid : Prop := parenLowsUptoRow.holds Tryd.pinned (OpenSpec.upto parenLowsSpec)

/-- 'parquetrylaw03.ParenOnce', WHERE WHAT IT READS IS OF BULK AT MOST 1048576: true; the input reads as it did. -/
def parenOnceUptoRow : OpenClaim := { program := "ytdpejjokdncfnaadoor", sum := "3b2d23776766271065fad5d556212e571da7a212446d6bc082ecb4e9928810b0", func := "parquetry/parquetrylaw03.ParenOnce", spec := "parenOnce", inPlace := ["sync/atomic.AddInt64", "sync/atomic.LoadUint32", "(*internal/sync.Mutex).Lock", "internal/race.Disable", "sync/atomic.CompareAndSwapInt32", "internal/race.Enable", "internal/race.Acquire", "(*internal/sync.Mutex).lockSlow", "internal/sync.runtime_canSpin", "internal/sync.runtime_doSpin", "internal/sync.throw", "internal/sync.runtime_nanotime", "internal/sync.runtime_SemacquireMutex", "sync/atomic.AddInt32", "(*internal/sync.Mutex).Unlock", "internal/race.ReleaseMerge", "(*internal/sync.Mutex).unlockSlow", "internal/sync.fatal", "internal/sync.runtime_Semrelease", "sync/atomic.StoreUint32", "sync/atomic.LoadInt64"], unfollowed := true, recurses := true, named := ["parquetry/paren.nothing"], apart := false, laid := [("parquetry/paren.nothing", laid_parquetry_paren_nothing)], narrowed := true }
def ParenOnceUptoSaid : Prop := parenOnceUptoRow.holds Tryd.pinned (OpenSpec.upto parenOnceSpec)

/-- 'parquetrylaw03.ParenJoins', WHERE WHAT IT READS IS OF BULK AT MOST 1048576: true; the input reads as it did. -/
def parenJoinsUptoRow : OpenClaim := { program := "ytdpejjokdncfnaadoor", sum := "3b2d23776766271065fad5d556212e571da7a212446d6bc082ecb4e9928810b0", func := "parquetry/parquetrylaw03.ParenJoins", spec := "parenJoins", inPlace := ["sync/atomic.AddInt64", "sync/atomic.LoadUint32", "(*internal/sync.Mutex).Lock", "internal/race.Disable", "sync/atomic.CompareAndSwapInt32", "internal/race.Enable", "internal/race.Acquire", "(*internal/sync.Mutex).lockSlow", "internal/sync.runtime_canSpin", "internal/sync.runtime_doSpin", "internal/sync.throw", "internal/sync.runtime_nanotime", "internal/sync.runtime_SemacquireMutex", "sync/atomic.AddInt32", "(*internal/sync.Mutex).Unlock", "internal/race.ReleaseMerge", "(*internal/sync.Mutex).unlockSlow", "internal/sync.fatal", "internal/sync.runtime_Semrelease", "sync/atomic.StoreUint32"], unfollowed := true, recurses := true, named := ["parquetry/paren.nothing"], apart := false, laid := [("parquetry/paren.nothing", laid_parquetry_paren_nothing)], narrowed := true }
def ParenJoinsUptoSaid : Prop := parenJoinsUptoRow.holds Tryd.pinned (OpenSpec.upto parenJoinsSpec)

end Rows
end Go.Proofs.YtdpejjokdncfnaaDoor
