/-
  No cell of these rows narrows 'for every input' (looked for: loops, veiled, ifaces, maps, wideKeys, modest, calm, conditions, laid).
  DERIVED. THE GIVEN ROWS OF THIS SEAT. 3 by the template 'for every input the law returns true; each argument reads behind the call as it read before'; 0 by the template 'total and deterministic' (their statements: YtkganhafbjgndaaGreatRRTotals.lean).
  GIVEN WITH THE SEED: the statements are not yours to turn. If you find one false, say at which input.
  Laid BY PROGRAM, IN A SANDBOX (cutbox-rows.mjs): the forced cells as the released guide's own fill.sh prints them over the translation e7d9c1439e9738be… (all of the seat's roots in one cut). By AI agents, Wed Nov 11 2026. No macro, syntax, notation, axiom, sorry.
-/
import Derived.Test.YtkganhafbjgndaaGreatRRChecked
import GoSem.Claim
import GoSem.ClaimJoined
import GoSem.ClaimMapViews
import Derived.JoinedTies
import Derived.KernelRfl
namespace Go.Proofs.YtkganhafbjgndaaGreatRR
/- THE CELL 'sum', in the pinned program and in every row, IS THE sha256 OF THE DUMP (.gsa) THAT YtkganhafbjgndaaGreatRRProg.lean LOADS. Nothing in Lean hashes anything: it is a label: what it is worth is what the hold of that sum in a sandbox is worth. -/
noncomputable def Tryz.pinned : Pinned := { name := "ytkganhafbjgndaagreatrr", sum := "e7d9c1439e9738beaac14501140db74a1d0c984dde5d7435e76c2f9af9105dfc", checked := Tryz.checked }
namespace Rows
def none {H : Type} : Left H := { results := [], args := [] }

/-- 'copyholdlaw15.NamesStale': WHATEVER THE INPUT: true; the input reads as it did. -/
def namesStaleSpec : ChangeSpec := { name := "namesStale", fn := fun _ => fun
  | [d1, d2, d3] => { results := [.lit (.bool true)], args := [d1, d2, d3] }
  | _ => none }
def namesStaleRow : OpenClaim := { program := "ytkganhafbjgndaagreatrr", sum := "e7d9c1439e9738beaac14501140db74a1d0c984dde5d7435e76c2f9af9105dfc", func := "copyhold/copyholdlaw15.NamesStale", spec := "namesStale", inPlace := ["internal/bytealg.IndexByteString", "internal/bytealg.IndexString", "internal/abi.NoEscape", "internal/bytealg.MakeNoZero"], unfollowed := true, recurses := true, named := ["internal/bytealg.MaxLen"], apart := false }
def NamesStaleSaid : Prop := namesStaleRow.holds Tryz.pinned (OpenSpec.ofChange namesStaleSpec)

/-- ITS FALSE NEIGHBOUR: 'it returns false'. Refute it at one input. -/
def namesStaleWrong : ChangeSpec := { name := "namesStale", fn := fun _ => fun
  | [d1, d2, d3] => { results := [.lit (.bool false)], args := [d1, d2, d3] }
  | _ => none }
def NamesStaleWrongFalsely : Prop := namesStaleRow.holds Tryz.pinned (OpenSpec.ofChange namesStaleWrong)

/-- 'copyholdlaw15.NamesNone': WHATEVER THE INPUT: true; the input reads as it did. -/
def namesNoneSpec : ChangeSpec := { name := "namesNone", fn := fun _ => fun
  | [d1, d2, d3, d4] => { results := [.lit (.bool true)], args := [d1, d2, d3, d4] }
  | _ => none }
def namesNoneRow : OpenClaim := { program := "ytkganhafbjgndaagreatrr", sum := "e7d9c1439e9738beaac14501140db74a1d0c984dde5d7435e76c2f9af9105dfc", func := "copyhold/copyholdlaw15.NamesNone", spec := "namesNone", inPlace := ["internal/bytealg.IndexByteString", "internal/bytealg.IndexString", "internal/abi.NoEscape", "internal/bytealg.MakeNoZero"], unfollowed := true, recurses := true, named := ["internal/bytealg.MaxLen"], apart := false }
def NamesNoneSaid : Prop := namesNoneRow.holds Tryz.pinned (OpenSpec.ofChange namesNoneSpec)

/-- ITS FALSE NEIGHBOUR: 'it returns false'. Refute it at one input. -/
def namesNoneWrong : ChangeSpec := { name := "namesNone", fn := fun _ => fun
  | [d1, d2, d3, d4] => { results := [.lit (.bool false)], args := [d1, d2, d3, d4] }
  | _ => none }
def NamesNoneWrongFalsely : Prop := namesNoneRow.holds Tryz.pinned (OpenSpec.ofChange namesNoneWrong)

/-- 'copyholdlaw15.NamesLinked': WHATEVER THE INPUT: true; the input reads as it did. -/
def namesLinkedSpec : ChangeSpec := { name := "namesLinked", fn := fun _ => fun
  | [d1, d2, d3] => { results := [.lit (.bool true)], args := [d1, d2, d3] }
  | _ => none }
def namesLinkedRow : OpenClaim := { program := "ytkganhafbjgndaagreatrr", sum := "e7d9c1439e9738beaac14501140db74a1d0c984dde5d7435e76c2f9af9105dfc", func := "copyhold/copyholdlaw15.NamesLinked", spec := "namesLinked", inPlace := ["internal/bytealg.IndexByteString", "internal/bytealg.IndexString", "internal/abi.NoEscape", "internal/bytealg.MakeNoZero"], unfollowed := true, recurses := true, named := ["internal/bytealg.MaxLen"], apart := false }
def NamesLinkedSaid : Prop := namesLinkedRow.holds Tryz.pinned (OpenSpec.ofChange namesLinkedSpec)

/-- ITS FALSE NEIGHBOUR: 'it returns false'. Refute it at one input. -/
def namesLinkedWrong : ChangeSpec := { name := "namesLinked", fn := fun _ => fun
  | [d1, d2, d3] => { results := [.lit (.bool false)], args := [d1, d2, d3] }
  | _ => none }
def NamesLinkedWrongFalsely : Prop := namesLinkedRow.holds Tryz.pinned (OpenSpec.ofChange namesLinkedWrong)

/- THE SECOND FORM. 'bulk': how many values and letters a reading holds, each counted each time it is reached (what is shared counts as often as it is met; a slice's spare places count too). A statement '..UptoSaid' is the law's where the arguments, and the package variables that the reading takes, are together of bulk at most 1048576: NARROWER than '..Said'. Prove '..Said' where nothing that the law and all that it calls make is longer than what came in: it says more and counts as full. Else prove '..UptoSaid'. A law counts once. -/
mutual
def uptoBulk {H : Type} : DataW H → Nat
  | .lit (.string bytes) => bytes.length + 1
  | .lit _ => 1
  | .nil => 1
  | .ptr d => uptoBulk d + 1
  | .slice elems spare => uptoBulkAll elems + uptoBulkAll spare + 1
  | .agg parts => uptoBulkAll parts + 1
  | .iface _ d => uptoBulk d + 1
  | .map entries => uptoBulkEntries entries + 1
  | .held _ => 1
def uptoBulkAll {H : Type} : List (DataW H) → Nat
  | [] => 0
  | d :: r => uptoBulk d + uptoBulkAll r
def uptoBulkEntries {H : Type} : List (Lit × DataW H) → Nat
  | [] => 0
  | x :: r => uptoBulkEntry x + uptoBulkEntries r
def uptoBulkEntry {H : Type} : Lit × DataW H → Nat
  | (.string bytes, d) => bytes.length + uptoBulk d + 1
  | (_, d) => uptoBulk d + 1
 end
def uptoSmall : (H : Type) → List (DataW H) → Bool := fun _ ds => decide (uptoBulkAll ds ≤ 1048576)
def OpenSpec.upto (s : _root_.Go.ChangeSpec) : _root_.Go.OpenSpec := { _root_.Go.OpenSpec.ofChange s with cond := some uptoSmall }

/-- 'copyholdlaw15.NamesStale', WHERE WHAT IT READS IS OF BULK AT MOST 1048576: true; the input reads as it did. -/
def namesStaleUptoRow : OpenClaim := { program := "ytkganhafbjgndaagreatrr", sum := "e7d9c1439e9738beaac14501140db74a1d0c984dde5d7435e76c2f9af9105dfc", func := "copyhold/copyholdlaw15.NamesStale", spec := "namesStale", inPlace := ["internal/bytealg.IndexByteString", "internal/bytealg.IndexString", "internal/abi.NoEscape", "internal/bytealg.MakeNoZero"], unfollowed := true, recurses := true, named := ["internal/bytealg.MaxLen"], apart := false, narrowed := true }
def NamesStaleUptoSaid : Prop := namesStaleUptoRow.holds Tryz.pinned (OpenSpec.upto namesStaleSpec)

/-- 'copyholdlaw15.NamesNone', WHERE WHAT IT READS IS OF BULK AT MOST 1048576: true; the input reads as it did. -/
def namesNoneUptoRow : OpenClaim := { program := "ytkganhafbjgndaagreatrr", sum := "e7d9c1439e9738beaac14501140db74a1d0c984dde5d7435e76c2f9af9105dfc", func := "copyhold/copyholdlaw15.NamesNone", spec := "namesNone", inPlace := ["internal/bytealg.IndexByteString", "internal/bytealg.IndexString", "internal/abi.NoEscape", "internal/bytealg.MakeNoZero"], unfollowed := true, recurses := true, named := ["internal/bytealg.MaxLen"], apart := false, narrowed := true }
def NamesNoneUptoSaid : Prop := namesNoneUptoRow.holds Tryz.pinned (OpenSpec.upto namesNoneSpec)

/-- 'copyholdlaw15.NamesLinked', WHERE WHAT IT READS IS OF BULK AT MOST 1048576: true; the input reads as it did. -/
def namesLinkedUptoRow : OpenClaim := { program := "ytkganhafbjgndaagreatrr", sum := "e7d9c1439e9738beaac14501140db74a1d0c984dde5d7435e76c2f9af9105dfc", func := "copyhold/copyholdlaw15.NamesLinked", spec := "namesLinked", inPlace := ["internal/bytealg.IndexByteString", "internal/bytealg.IndexString", "internal/abi.NoEscape", "internal/bytealg.MakeNoZero"], unfollowed := true, recurses := true, named := ["internal/bytealg.MaxLen"], apart := false, narrowed := true }
def NamesLinkedUptoSaid : Prop := namesLinkedUptoRow.holds Tryz.pinned (OpenSpec.upto namesLinkedSpec)

end Rows
end Go.Proofs.YtkganhafbjgndaaGreatRR
