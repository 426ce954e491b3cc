/-
  No cell of these rows narrows 'for every input' (looked for: loops, veiled, ifaces, maps, wideKeys, modest, calm, conditions, laid).
  DERIVED. THE GIVEN ROWS OF THIS SEAT. 5 by the template 'for every input the law returns true; each argument reads behind the call as it read before'; 0 by the template 'total and deterministic' (their statements: YtpeodpgihmcghaaTotals.lean).
  GIVEN WITH THE SEED: the statements are not yours to turn. If you find one false, say at which input.
  Laid BY PROGRAM, IN A SANDBOX (cutbox-rows.mjs): the forced cells as the released guide's own fill.sh prints them over the translation 6f0a4c74becafb72… (all of the seat's roots in one cut). By AI agents, Wed Nov 11 2026. No macro, syntax, notation, axiom, sorry.
-/
import Derived.Test.YtpeodpgihmcghaaChecked
import GoSem.Claim
import GoSem.ClaimJoined
import GoSem.ClaimMapViews
import Derived.JoinedTies
import Derived.KernelRfl
namespace Go.Proofs.Ytpeodpgihmcghaa
/- THE CELL 'sum', in the pinned program and in every row, IS THE sha256 OF THE DUMP (.gsa) THAT YtpeodpgihmcghaaProg.lean LOADS. Nothing in Lean hashes anything: it is a label: what it is worth is what the hold of that sum in a sandbox is worth. -/
noncomputable def Try.pinned : Pinned := { name := "ytpeodpgihmcghaa", sum := "6f0a4c74becafb728e7ac38bc2d260d340ee3eb00e315f2ad9d2e217c100fb41", checked := Try.checked }
namespace Rows
def none {H : Type} : Left H := { results := [], args := [] }

/-- 'runnellaw9.ValueSigns': WHATEVER THE INPUT: true; the input reads as it did. -/
def valueSignsSpec : ChangeSpec := { name := "valueSigns", fn := fun _ => fun
  | [d1, d2, d3, d4] => { results := [.lit (.bool true)], args := [d1, d2, d3, d4] }
  | _ => none }
def valueSignsRow : OpenClaim := { program := "ytpeodpgihmcghaa", sum := "6f0a4c74becafb728e7ac38bc2d260d340ee3eb00e315f2ad9d2e217c100fb41", func := "runnel/runnellaw9.ValueSigns", spec := "valueSigns", inPlace := ["sync/atomic.LoadInt64", "sync/atomic.AddInt64"], apart := false }
def ValueSignsSaid : Prop := valueSignsRow.holds Try.pinned (OpenSpec.ofChange valueSignsSpec)

/-- ITS FALSE NEIGHBOUR: 'it returns false'. Refute it at one input. -/
def valueSignsWrong : ChangeSpec := { name := "valueSigns", fn := fun _ => fun
  | [d1, d2, d3, d4] => { results := [.lit (.bool false)], args := [d1, d2, d3, d4] }
  | _ => none }
def ValueSignsWrongFalsely : Prop := valueSignsRow.holds Try.pinned (OpenSpec.ofChange valueSignsWrong)

/-- 'runnellaw9.ValueHeaps': WHATEVER THE INPUT: true; the input reads as it did. -/
def valueHeapsSpec : ChangeSpec := { name := "valueHeaps", fn := fun _ => fun
  | [d] => { results := [.lit (.bool true)], args := [d] }
  | _ => none }
def valueHeapsRow : OpenClaim := { program := "ytpeodpgihmcghaa", sum := "6f0a4c74becafb728e7ac38bc2d260d340ee3eb00e315f2ad9d2e217c100fb41", func := "runnel/runnellaw9.ValueHeaps", spec := "valueHeaps", inPlace := ["sync/atomic.LoadInt64", "sync/atomic.AddInt64", "sync/atomic.StoreInt64"], apart := false }
def ValueHeapsSaid : Prop := valueHeapsRow.holds Try.pinned (OpenSpec.ofChange valueHeapsSpec)

/-- ITS FALSE NEIGHBOUR: 'it returns false'. Refute it at one input. -/
def valueHeapsWrong : ChangeSpec := { name := "valueHeaps", fn := fun _ => fun
  | [d] => { results := [.lit (.bool false)], args := [d] }
  | _ => none }
def ValueHeapsWrongFalsely : Prop := valueHeapsRow.holds Try.pinned (OpenSpec.ofChange valueHeapsWrong)

/-- 'runnellaw9.ValueLaws': WHATEVER THE INPUT: true; the input reads as it did. -/
def valueLawsSpec : ChangeSpec := { name := "valueLaws", fn := fun _ => fun
  | [d1, d2] => { results := [.lit (.bool true)], args := [d1, d2] }
  | _ => none }
def valueLawsRow : OpenClaim := { program := "ytpeodpgihmcghaa", sum := "6f0a4c74becafb728e7ac38bc2d260d340ee3eb00e315f2ad9d2e217c100fb41", func := "runnel/runnellaw9.ValueLaws", spec := "valueLaws", inPlace := ["sync/atomic.LoadInt64", "sync/atomic.AddInt64"], apart := false }
def ValueLawsSaid : Prop := valueLawsRow.holds Try.pinned (OpenSpec.ofChange valueLawsSpec)

/-- ITS FALSE NEIGHBOUR: 'it returns false'. Refute it at one input. -/
def valueLawsWrong : ChangeSpec := { name := "valueLaws", fn := fun _ => fun
  | [d1, d2] => { results := [.lit (.bool false)], args := [d1, d2] }
  | _ => none }
def ValueLawsWrongFalsely : Prop := valueLawsRow.holds Try.pinned (OpenSpec.ofChange valueLawsWrong)

/-- 'runnellaw9.ValueKeeps': WHATEVER THE INPUT: true; the input reads as it did. -/
def valueKeepsSpec : ChangeSpec := { name := "valueKeeps", fn := fun _ => fun
  | [d1, d2, d3, d4, d5, d6] => { results := [.lit (.bool true)], args := [d1, d2, d3, d4, d5, d6] }
  | _ => none }
def valueKeepsRow : OpenClaim := { program := "ytpeodpgihmcghaa", sum := "6f0a4c74becafb728e7ac38bc2d260d340ee3eb00e315f2ad9d2e217c100fb41", func := "runnel/runnellaw9.ValueKeeps", spec := "valueKeeps", inPlace := ["sync/atomic.LoadInt64", "sync/atomic.AddInt64", "sync/atomic.StoreInt64"], apart := false }
def ValueKeepsSaid : Prop := valueKeepsRow.holds Try.pinned (OpenSpec.ofChange valueKeepsSpec)

/-- ITS FALSE NEIGHBOUR: 'it returns false'. Refute it at one input. -/
def valueKeepsWrong : ChangeSpec := { name := "valueKeeps", fn := fun _ => fun
  | [d1, d2, d3, d4, d5, d6] => { results := [.lit (.bool false)], args := [d1, d2, d3, d4, d5, d6] }
  | _ => none }
def ValueKeepsWrongFalsely : Prop := valueKeepsRow.holds Try.pinned (OpenSpec.ofChange valueKeepsWrong)

/-- 'runnellaw9.ValueArrays': WHATEVER THE INPUT: true; the input reads as it did. -/
def valueArraysSpec : ChangeSpec := { name := "valueArrays", fn := fun _ => fun
  | [d1, d2, d3] => { results := [.lit (.bool true)], args := [d1, d2, d3] }
  | _ => none }
def valueArraysRow : OpenClaim := { program := "ytpeodpgihmcghaa", sum := "6f0a4c74becafb728e7ac38bc2d260d340ee3eb00e315f2ad9d2e217c100fb41", func := "runnel/runnellaw9.ValueArrays", spec := "valueArrays", inPlace := ["sync/atomic.LoadInt64", "sync/atomic.AddInt64"], apart := false }
def ValueArraysSaid : Prop := valueArraysRow.holds Try.pinned (OpenSpec.ofChange valueArraysSpec)

/-- ITS FALSE NEIGHBOUR: 'it returns false'. Refute it at one input. -/
def valueArraysWrong : ChangeSpec := { name := "valueArrays", fn := fun _ => fun
  | [d1, d2, d3] => { results := [.lit (.bool false)], args := [d1, d2, d3] }
  | _ => none }
def ValueArraysWrongFalsely : Prop := valueArraysRow.holds Try.pinned (OpenSpec.ofChange valueArraysWrong)

/- THE SECOND FORM. 'bulk': how many values and letters a reading holds, each counted each time it is reached (what is shared counts as often as it is met; a slice's spare places count too). A statement '..UptoSaid' is the law's where the arguments, and the package variables that the reading takes, are together of bulk at most 1048576: NARROWER than '..Said'. Prove '..Said' where nothing that the law and all that it calls make is longer than what came in: it says more and counts as full. Else prove '..UptoSaid'. A law counts once. -/
mutual
def uptoBulk {H : Type} : DataW H → Nat
  | .lit (.string bytes) => bytes.length + 1
  | .lit _ => 1
  | .nil => 1
  | .ptr d => uptoBulk d + 1
  | .slice elems spare => uptoBulkAll elems + uptoBulkAll spare + 1
  | .agg parts => uptoBulkAll parts + 1
  | .iface _ d => uptoBulk d + 1
  | .map entries => uptoBulkEntries entries + 1
  | .held _ => 1
def uptoBulkAll {H : Type} : List (DataW H) → Nat
  | [] => 0
  | d :: r => uptoBulk d + uptoBulkAll r
def uptoBulkEntries {H : Type} : List (Lit × DataW H) → Nat
  | [] => 0
  | x :: r => uptoBulkEntry x + uptoBulkEntries r
def uptoBulkEntry {H : Type} : Lit × DataW H → Nat
  | (.string bytes, d) => bytes.length + uptoBulk d + 1
  | (_, d) => uptoBulk d + 1
 end
def uptoSmall : (H : Type) → List (DataW H) → Bool := fun _ ds => decide (uptoBulkAll ds ≤ 1048576)
def OpenSpec.upto (s : _root_.Go.ChangeSpec) : _root_.Go.OpenSpec := { _root_.Go.OpenSpec.ofChange s with cond := some uptoSmall }

/-- 'runnellaw9.ValueSigns', WHERE WHAT IT READS IS OF BULK AT MOST 1048576: true; the input reads as it did. -/
def valueSignsUptoRow : OpenClaim := { program := "ytpeodpgihmcghaa", sum := "6f0a4c74becafb728e7ac38bc2d260d340ee3eb00e315f2ad9d2e217c100fb41", func := "runnel/runnellaw9.ValueSigns", spec := "valueSigns", inPlace := ["sync/atomic.LoadInt64", "sync/atomic.AddInt64"], apart := false, narrowed := true }
def ValueSignsUptoSaid : Prop := valueSignsUptoRow.holds Try.pinned (OpenSpec.upto valueSignsSpec)

/-- 'runnellaw9.ValueHeaps', WHERE WHAT IT READS IS OF BULK AT MOST 1048576: true; the input reads as it did. -/
def valueHeapsUptoRow : OpenClaim := { program := "ytpeodpgihmcghaa", sum := "6f0a4c74becafb728e7ac38bc2d260d340ee3eb00e315f2ad9d2e217c100fb41", func := "runnel/runnellaw9.ValueHeaps", spec := "valueHeaps", inPlace := ["sync/atomic.LoadInt64", "sync/atomic.AddInt64", "sync/atomic.StoreInt64"], apart := false, narrowed := true }
def ValueHeapsUptoSaid : Prop := valueHeapsUptoRow.holds Try.pinned (OpenSpec.upto valueHeapsSpec)

/-- 'runnellaw9.ValueLaws', WHERE WHAT IT READS IS OF BULK AT MOST 1048576: true; the input reads as it did. -/
def valueLawsUptoRow : OpenClaim := { program := "ytpeodpgihmcghaa", sum := "6f0a4c74becafb728e7ac38bc2d260d340ee3eb00e315f2ad9d2e217c100fb41", func := "runnel/runnellaw9.ValueLaws", spec := "valueLaws", inPlace := ["sync/atomic.LoadInt64", "sync/atomic.AddInt64"], apart := false, narrowed := true }
def ValueLawsUptoSaid : Prop := valueLawsUptoRow.holds Try.pinned (OpenSpec.upto valueLawsSpec)

/-- 'runnellaw9.ValueKeeps', WHERE WHAT IT READS IS OF BULK AT MOST 1048576: true; the input reads as it did. -/
def valueKeepsUptoRow : OpenClaim := { program := "ytpeodpgihmcghaa", sum := "6f0a4c74becafb728e7ac38bc2d260d340ee3eb00e315f2ad9d2e217c100fb41", func := "runnel/runnellaw9.ValueKeeps", spec := "valueKeeps", inPlace := ["sync/atomic.LoadInt64", "sync/atomic.AddInt64", "sync/atomic.StoreInt64"], apart := false, narrowed := true }
def ValueKeepsUptoSaid : Prop := valueKeepsUptoRow.holds Try.pinned (OpenSpec.upto valueKeepsSpec)

/-- 'runnellaw9.ValueArrays', WHERE WHAT IT READS IS OF BULK AT MOST 1048576: true; the input reads as it did. -/
def valueArraysUptoRow : OpenClaim := { program := "ytpeodpgihmcghaa", sum := "6f0a4c74becafb728e7ac38bc2d260d340ee3eb00e315f2ad9d2e217c100fb41", func := "runnel/runnellaw9.ValueArrays", spec := "valueArrays", inPlace := ["sync/atomic.LoadInt64", "sync/atomic.AddInt64"], apart := false, narrowed := true }
def ValueArraysUptoSaid : Prop := valueArraysUptoRow.holds Try.pinned (OpenSpec.upto valueArraysSpec)

end Rows
end Go.Proofs.Ytpeodpgihmcghaa
