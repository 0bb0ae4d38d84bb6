/-
  No cell of these rows narrows 'for every input' (looked for: loops, veiled, ifaces, maps, wideKeys, modest, calm, conditions, laid).
  DERIVED. THE GIVEN ROWS OF THIS SEAT. 5 by the template 'for every input the law returns true; each argument reads behind the call as it read before'; 0 by the template 'total and deterministic' (their statements: YtlhkkelpombbiaaTotals.lean).
  GIVEN WITH THE SEED: the statements are not yours to turn. If you find one false, say at which input.
  Laid BY PROGRAM, IN A SANDBOX (cutbox-rows.mjs): the forced cells as the released guide's own fill.sh prints them over the translation a8ce0f35b5f096bd… (all of the seat's roots in one cut). By AI agents, Wed Nov 11 2026. No macro, syntax, notation, axiom, sorry.
-/
import Derived.Test.YtlhkkelpombbiaaChecked
import GoSem.Claim
import GoSem.ClaimJoined
import GoSem.ClaimMapViews
import Derived.JoinedTies
import Derived.KernelRfl
namespace Go.Proofs.Ytlhkkelpombbiaa
/- THE CELL 'sum', in the pinned program and in every row, IS THE sha256 OF THE DUMP (.gsa) THAT YtlhkkelpombbiaaProg.lean LOADS. Nothing in Lean hashes anything: it is a label: what it is worth is what the hold of that sum in a sandbox is worth. -/
noncomputable def Try.pinned : Pinned := { name := "ytlhkkelpombbiaa", sum := "a8ce0f35b5f096bd9d236736240f9979411be71c9efb48229224733c8faba409", checked := Try.checked }
namespace Rows
def none {H : Type} : Left H := { results := [], args := [] }

/-- 'copyholdlaw06.RedoHeads': WHATEVER THE INPUT: true; the input reads as it did. -/
def redoHeadsSpec : ChangeSpec := { name := "redoHeads", fn := fun _ => fun
  | [d1, d2] => { results := [.lit (.bool true)], args := [d1, d2] }
  | _ => none }
def redoHeadsRow : OpenClaim := { program := "ytlhkkelpombbiaa", sum := "a8ce0f35b5f096bd9d236736240f9979411be71c9efb48229224733c8faba409", func := "copyhold/copyholdlaw06.RedoHeads", spec := "redoHeads", unfollowed := true, recurses := true, apart := false }
def RedoHeadsSaid : Prop := redoHeadsRow.holds Try.pinned (OpenSpec.ofChange redoHeadsSpec)

/-- ITS FALSE NEIGHBOUR: 'it returns false'. Refute it at one input. -/
def redoHeadsWrong : ChangeSpec := { name := "redoHeads", fn := fun _ => fun
  | [d1, d2] => { results := [.lit (.bool false)], args := [d1, d2] }
  | _ => none }
def RedoHeadsWrongFalsely : Prop := redoHeadsRow.holds Try.pinned (OpenSpec.ofChange redoHeadsWrong)

/-- 'copyholdlaw06.RedoPlays': WHATEVER THE INPUT: true; the input reads as it did. -/
def redoPlaysSpec : ChangeSpec := { name := "redoPlays", fn := fun _ => fun
  | [d1, d2] => { results := [.lit (.bool true)], args := [d1, d2] }
  | _ => none }
def redoPlaysRow : OpenClaim := { program := "ytlhkkelpombbiaa", sum := "a8ce0f35b5f096bd9d236736240f9979411be71c9efb48229224733c8faba409", func := "copyhold/copyholdlaw06.RedoPlays", spec := "redoPlays", unfollowed := true, recurses := true, apart := false }
def RedoPlaysSaid : Prop := redoPlaysRow.holds Try.pinned (OpenSpec.ofChange redoPlaysSpec)

/-- ITS FALSE NEIGHBOUR: 'it returns false'. Refute it at one input. -/
def redoPlaysWrong : ChangeSpec := { name := "redoPlays", fn := fun _ => fun
  | [d1, d2] => { results := [.lit (.bool false)], args := [d1, d2] }
  | _ => none }
def RedoPlaysWrongFalsely : Prop := redoPlaysRow.holds Try.pinned (OpenSpec.ofChange redoPlaysWrong)

/-- 'copyholdlaw06.RedoNone': WHATEVER THE INPUT: true; the input reads as it did. -/
def redoNoneSpec : ChangeSpec := { name := "redoNone", fn := fun _ => fun
  | [d1, d2] => { results := [.lit (.bool true)], args := [d1, d2] }
  | _ => none }
def redoNoneRow : OpenClaim := { program := "ytlhkkelpombbiaa", sum := "a8ce0f35b5f096bd9d236736240f9979411be71c9efb48229224733c8faba409", func := "copyhold/copyholdlaw06.RedoNone", spec := "redoNone", unfollowed := true, recurses := true, apart := false }
def RedoNoneSaid : Prop := redoNoneRow.holds Try.pinned (OpenSpec.ofChange redoNoneSpec)

/-- ITS FALSE NEIGHBOUR: 'it returns false'. Refute it at one input. -/
def redoNoneWrong : ChangeSpec := { name := "redoNone", fn := fun _ => fun
  | [d1, d2] => { results := [.lit (.bool false)], args := [d1, d2] }
  | _ => none }
def RedoNoneWrongFalsely : Prop := redoNoneRow.holds Try.pinned (OpenSpec.ofChange redoNoneWrong)

/-- 'copyholdlaw06.RedoTwice': WHATEVER THE INPUT: true; the input reads as it did. -/
def redoTwiceSpec : ChangeSpec := { name := "redoTwice", fn := fun _ => fun
  | [d1, d2, d3, d4] => { results := [.lit (.bool true)], args := [d1, d2, d3, d4] }
  | _ => none }
def redoTwiceRow : OpenClaim := { program := "ytlhkkelpombbiaa", sum := "a8ce0f35b5f096bd9d236736240f9979411be71c9efb48229224733c8faba409", func := "copyhold/copyholdlaw06.RedoTwice", spec := "redoTwice", unfollowed := true, recurses := true, apart := false }
def RedoTwiceSaid : Prop := redoTwiceRow.holds Try.pinned (OpenSpec.ofChange redoTwiceSpec)

/-- ITS FALSE NEIGHBOUR: 'it returns false'. Refute it at one input. -/
def redoTwiceWrong : ChangeSpec := { name := "redoTwice", fn := fun _ => fun
  | [d1, d2, d3, d4] => { results := [.lit (.bool false)], args := [d1, d2, d3, d4] }
  | _ => none }
def RedoTwiceWrongFalsely : Prop := redoTwiceRow.holds Try.pinned (OpenSpec.ofChange redoTwiceWrong)

/-- 'copyholdlaw06.RedoLast': WHATEVER THE INPUT: true; the input reads as it did. -/
def redoLastSpec : ChangeSpec := { name := "redoLast", fn := fun _ => fun
  | [d1, d2, d3, d4] => { results := [.lit (.bool true)], args := [d1, d2, d3, d4] }
  | _ => none }
def redoLastRow : OpenClaim := { program := "ytlhkkelpombbiaa", sum := "a8ce0f35b5f096bd9d236736240f9979411be71c9efb48229224733c8faba409", func := "copyhold/copyholdlaw06.RedoLast", spec := "redoLast", unfollowed := true, recurses := true, apart := false }
def RedoLastSaid : Prop := redoLastRow.holds Try.pinned (OpenSpec.ofChange redoLastSpec)

/-- ITS FALSE NEIGHBOUR: 'it returns false'. Refute it at one input. -/
def redoLastWrong : ChangeSpec := { name := "redoLast", fn := fun _ => fun
  | [d1, d2, d3, d4] => { results := [.lit (.bool false)], args := [d1, d2, d3, d4] }
  | _ => none }
def RedoLastWrongFalsely : Prop := redoLastRow.holds Try.pinned (OpenSpec.ofChange redoLastWrong)

/- THE SECOND FORM. 'bulk': how many values and letters a reading holds, each counted each time it is reached (what is shared counts as often as it is met; a slice's spare places count too). A statement '..UptoSaid' is the law's where the arguments, and the package variables that the reading takes, are together of bulk at most 1048576: NARROWER than '..Said'. Prove '..Said' where nothing that the law and all that it calls make is longer than what came in: it says more and counts as full. Else prove '..UptoSaid'. A law counts once. -/
mutual
def uptoBulk {H : Type} : DataW H → Nat
  | .lit (.string bytes) => bytes.length + 1
  | .lit _ => 1
  | .nil => 1
  | .ptr d => uptoBulk d + 1
  | .slice elems spare => uptoBulkAll elems + uptoBulkAll spare + 1
  | .agg parts => uptoBulkAll parts + 1
  | .iface _ d => uptoBulk d + 1
  | .map entries => uptoBulkEntries entries + 1
  | .held _ => 1
def uptoBulkAll {H : Type} : List (DataW H) → Nat
  | [] => 0
  | d :: r => uptoBulk d + uptoBulkAll r
def uptoBulkEntries {H : Type} : List (Lit × DataW H) → Nat
  | [] => 0
  | x :: r => uptoBulkEntry x + uptoBulkEntries r
def uptoBulkEntry {H : Type} : Lit × DataW H → Nat
  | (.string bytes, d) => bytes.length + uptoBulk d + 1
  | (_, d) => uptoBulk d + 1
 end
def uptoSmall : (H : Type) → List (DataW H) → Bool := fun _ ds => decide (uptoBulkAll ds ≤ 1048576)
def OpenSpec.upto (s : _root_.Go.ChangeSpec) : _root_.Go.OpenSpec := { _root_.Go.OpenSpec.ofChange s with cond := some uptoSmall }

/-- 'copyholdlaw06.RedoHeads', WHERE WHAT IT READS IS OF BULK AT MOST 1048576: true; the input reads as it did. -/
def redoHeadsUptoRow : OpenClaim := { program := "ytlhkkelpombbiaa", sum := "a8ce0f35b5f096bd9d236736240f9979411be71c9efb48229224733c8faba409", func := "copyhold/copyholdlaw06.RedoHeads", spec := "redoHeads", unfollowed := true, recurses := true, apart := false, narrowed := true }
def RedoHeadsUptoSaid : Prop := redoHeadsUptoRow.holds Try.pinned (OpenSpec.upto redoHeadsSpec)

/-- 'copyholdlaw06.RedoPlays', WHERE WHAT IT READS IS OF BULK AT MOST 1048576: true; the input reads as it did. -/
def redoPlaysUptoRow : OpenClaim := { program := "ytlhkkelpombbiaa", sum := "a8ce0f35b5f096bd9d236736240f9979411be71c9efb48229224733c8faba409", func := "copyhold/copyholdlaw06.RedoPlays", spec := "redoPlays", unfollowed := true, recurses := true, apart := false, narrowed := true }
def RedoPlaysUptoSaid : Prop := redoPlaysUptoRow.holds Try.pinned (OpenSpec.upto redoPlaysSpec)

/-- 'copyholdlaw06.RedoNone', WHERE WHAT IT READS IS OF BULK AT MOST 1048576: true; the input reads as it did. -/
def redoNoneUptoRow : OpenClaim := { program := "ytlhkkelpombbiaa", sum := "a8ce0f35b5f096bd9d236736240f9979411be71c9efb48229224733c8faba409", func := "copyhold/copyholdlaw06.RedoNone", spec := "redoNone", unfollowed := true, recurses := true, apart := false, narrowed := true }
def RedoNoneUptoSaid : Prop := redoNoneUptoRow.holds Try.pinned (OpenSpec.upto redoNoneSpec)

/-- 'copyholdlaw06.RedoTwice', WHERE WHAT IT READS IS OF BULK AT MOST 1048576: true; the input reads as it did. -/
def redoTwiceUptoRow : OpenClaim := { program := "ytlhkkelpombbiaa", sum := "a8ce0f35b5f096bd9d236736240f9979411be71c9efb48229224733c8faba409", func := "copyhold/copyholdlaw06.RedoTwice", spec := "redoTwice", unfollowed := true, recurses := true, apart := false, narrowed := true }
def RedoTwiceUptoSaid : Prop := redoTwiceUptoRow.holds Try.pinned (OpenSpec.upto redoTwiceSpec)

/-- 'copyholdlaw06.RedoLast', WHERE WHAT IT READS IS OF BULK AT MOST 1048576: true; the input reads as it did. -/
def redoLastUptoRow : OpenClaim := { program := "ytlhkkelpombbiaa", sum := "a8ce0f35b5f096bd9d236736240f9979411be71c9efb48229224733c8faba409", func := "copyhold/copyholdlaw06.RedoLast", spec := "redoLast", unfollowed := true, recurses := true, apart := false, narrowed := true }
def RedoLastUptoSaid : Prop := redoLastUptoRow.holds Try.pinned (OpenSpec.upto redoLastSpec)

end Rows
end Go.Proofs.Ytlhkkelpombbiaa
