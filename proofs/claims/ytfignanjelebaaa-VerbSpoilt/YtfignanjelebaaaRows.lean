/-
  No cell of these rows narrows 'for every input' (looked for: loops, veiled, ifaces, maps, wideKeys, modest, calm, conditions, laid).
  DERIVED. THE GIVEN ROWS OF THIS SEAT. 7 by the template 'for every input the law returns true; each argument reads behind the call as it read before'; 0 by the template 'total and deterministic' (their statements: YtfignanjelebaaaTotals.lean).
  GIVEN WITH THE SEED: the statements are not yours to turn. If you find one false, say at which input.
  Laid BY PROGRAM, IN A SANDBOX (cutbox-rows.mjs): the forced cells as the released guide's own fill.sh prints them over the translation fedf18f8edc83e4d… (all of the seat's roots in one cut). By AI agents, Wed Nov 11 2026. No macro, syntax, notation, axiom, sorry.
-/
import Derived.Test.YtfignanjelebaaaChecked
import GoSem.Claim
import GoSem.ClaimJoined
import GoSem.ClaimMapViews
import Derived.JoinedTies
import Derived.KernelRfl
namespace Go.Proofs.Ytfignanjelebaaa
/- THE CELL 'sum', in the pinned program and in every row, IS THE sha256 OF THE DUMP (.gsa) THAT YtfignanjelebaaaProg.lean LOADS. Nothing in Lean hashes anything: it is a label: what it is worth is what the hold of that sum in a sandbox is worth. -/
noncomputable def Try.pinned : Pinned := { name := "ytfignanjelebaaa", sum := "fedf18f8edc83e4dbfaddbf7fa09142a94fcac5bab002cf0cd2e7e0ff2886342", checked := Try.checked }
namespace Rows
def none {H : Type} : Left H := { results := [], args := [] }

/-- 'copyholdlaw17.VerbAsks': WHATEVER THE INPUT: true; the input reads as it did. -/
def verbAsksSpec : ChangeSpec := { name := "verbAsks", fn := fun _ => fun
  | [d1, d2] => { results := [.lit (.bool true)], args := [d1, d2] }
  | _ => none }
def verbAsksRow : OpenClaim := { program := "ytfignanjelebaaa", sum := "fedf18f8edc83e4dbfaddbf7fa09142a94fcac5bab002cf0cd2e7e0ff2886342", func := "copyhold/copyholdlaw17.VerbAsks", spec := "verbAsks", unfollowed := true, recurses := true, apart := false }
def VerbAsksSaid : Prop := verbAsksRow.holds Try.pinned (OpenSpec.ofChange verbAsksSpec)

/-- ITS FALSE NEIGHBOUR: 'it returns false'. Refute it at one input. -/
def verbAsksWrong : ChangeSpec := { name := "verbAsks", fn := fun _ => fun
  | [d1, d2] => { results := [.lit (.bool false)], args := [d1, d2] }
  | _ => none }
def VerbAsksWrongFalsely : Prop := verbAsksRow.holds Try.pinned (OpenSpec.ofChange verbAsksWrong)

/-- 'copyholdlaw17.VerbAsked': WHATEVER THE INPUT: true; the input reads as it did. -/
def verbAskedSpec : ChangeSpec := { name := "verbAsked", fn := fun _ => fun
  | [d1, d2] => { results := [.lit (.bool true)], args := [d1, d2] }
  | _ => none }
def verbAskedRow : OpenClaim := { program := "ytfignanjelebaaa", sum := "fedf18f8edc83e4dbfaddbf7fa09142a94fcac5bab002cf0cd2e7e0ff2886342", func := "copyhold/copyholdlaw17.VerbAsked", spec := "verbAsked", unfollowed := true, recurses := true, apart := false }
def VerbAskedSaid : Prop := verbAskedRow.holds Try.pinned (OpenSpec.ofChange verbAskedSpec)

/-- ITS FALSE NEIGHBOUR: 'it returns false'. Refute it at one input. -/
def verbAskedWrong : ChangeSpec := { name := "verbAsked", fn := fun _ => fun
  | [d1, d2] => { results := [.lit (.bool false)], args := [d1, d2] }
  | _ => none }
def VerbAskedWrongFalsely : Prop := verbAskedRow.holds Try.pinned (OpenSpec.ofChange verbAskedWrong)

/-- 'copyholdlaw17.VerbAnswers': WHATEVER THE INPUT: true; the input reads as it did. -/
def verbAnswersSpec : ChangeSpec := { name := "verbAnswers", fn := fun _ => fun
  | [d1, d2] => { results := [.lit (.bool true)], args := [d1, d2] }
  | _ => none }
def verbAnswersRow : OpenClaim := { program := "ytfignanjelebaaa", sum := "fedf18f8edc83e4dbfaddbf7fa09142a94fcac5bab002cf0cd2e7e0ff2886342", func := "copyhold/copyholdlaw17.VerbAnswers", spec := "verbAnswers", unfollowed := true, recurses := true, apart := false }
def VerbAnswersSaid : Prop := verbAnswersRow.holds Try.pinned (OpenSpec.ofChange verbAnswersSpec)

/-- ITS FALSE NEIGHBOUR: 'it returns false'. Refute it at one input. -/
def verbAnswersWrong : ChangeSpec := { name := "verbAnswers", fn := fun _ => fun
  | [d1, d2] => { results := [.lit (.bool false)], args := [d1, d2] }
  | _ => none }
def VerbAnswersWrongFalsely : Prop := verbAnswersRow.holds Try.pinned (OpenSpec.ofChange verbAnswersWrong)

/-- 'copyholdlaw17.VerbCalls': WHATEVER THE INPUT: true; the input reads as it did. -/
def verbCallsSpec : ChangeSpec := { name := "verbCalls", fn := fun _ => fun
  | [d1, d2] => { results := [.lit (.bool true)], args := [d1, d2] }
  | _ => none }
def verbCallsRow : OpenClaim := { program := "ytfignanjelebaaa", sum := "fedf18f8edc83e4dbfaddbf7fa09142a94fcac5bab002cf0cd2e7e0ff2886342", func := "copyhold/copyholdlaw17.VerbCalls", spec := "verbCalls", unfollowed := true, recurses := true, apart := false }
def VerbCallsSaid : Prop := verbCallsRow.holds Try.pinned (OpenSpec.ofChange verbCallsSpec)

/-- ITS FALSE NEIGHBOUR: 'it returns false'. Refute it at one input. -/
def verbCallsWrong : ChangeSpec := { name := "verbCalls", fn := fun _ => fun
  | [d1, d2] => { results := [.lit (.bool false)], args := [d1, d2] }
  | _ => none }
def VerbCallsWrongFalsely : Prop := verbCallsRow.holds Try.pinned (OpenSpec.ofChange verbCallsWrong)

/-- 'copyholdlaw17.VerbShorts': WHATEVER THE INPUT: true; the input reads as it did. -/
def verbShortsSpec : ChangeSpec := { name := "verbShorts", fn := fun _ => fun
  | [d1, d2] => { results := [.lit (.bool true)], args := [d1, d2] }
  | _ => none }
def verbShortsRow : OpenClaim := { program := "ytfignanjelebaaa", sum := "fedf18f8edc83e4dbfaddbf7fa09142a94fcac5bab002cf0cd2e7e0ff2886342", func := "copyhold/copyholdlaw17.VerbShorts", spec := "verbShorts", unfollowed := true, recurses := true, apart := false }
def VerbShortsSaid : Prop := verbShortsRow.holds Try.pinned (OpenSpec.ofChange verbShortsSpec)

/-- ITS FALSE NEIGHBOUR: 'it returns false'. Refute it at one input. -/
def verbShortsWrong : ChangeSpec := { name := "verbShorts", fn := fun _ => fun
  | [d1, d2] => { results := [.lit (.bool false)], args := [d1, d2] }
  | _ => none }
def VerbShortsWrongFalsely : Prop := verbShortsRow.holds Try.pinned (OpenSpec.ofChange verbShortsWrong)

/-- 'copyholdlaw17.VerbOne': WHATEVER THE INPUT: true; the input reads as it did. -/
def verbOneSpec : ChangeSpec := { name := "verbOne", fn := fun _ => fun
  | [d] => { results := [.lit (.bool true)], args := [d] }
  | _ => none }
def verbOneRow : OpenClaim := { program := "ytfignanjelebaaa", sum := "fedf18f8edc83e4dbfaddbf7fa09142a94fcac5bab002cf0cd2e7e0ff2886342", func := "copyhold/copyholdlaw17.VerbOne", spec := "verbOne", unfollowed := true, recurses := true, apart := false }
def VerbOneSaid : Prop := verbOneRow.holds Try.pinned (OpenSpec.ofChange verbOneSpec)

/-- ITS FALSE NEIGHBOUR: 'it returns false'. Refute it at one input. -/
def verbOneWrong : ChangeSpec := { name := "verbOne", fn := fun _ => fun
  | [d] => { results := [.lit (.bool false)], args := [d] }
  | _ => none }
def VerbOneWrongFalsely : Prop := verbOneRow.holds Try.pinned (OpenSpec.ofChange verbOneWrong)

/-- 'copyholdlaw17.VerbSpoilt': WHATEVER THE INPUT: true; the input reads as it did. -/
def verbSpoiltSpec : ChangeSpec := { name := "verbSpoilt", fn := fun _ => fun
  | [d1, d2, d3, d4] => { results := [.lit (.bool true)], args := [d1, d2, d3, d4] }
  | _ => none }
def verbSpoiltRow : OpenClaim := { program := "ytfignanjelebaaa", sum := "fedf18f8edc83e4dbfaddbf7fa09142a94fcac5bab002cf0cd2e7e0ff2886342", func := "copyhold/copyholdlaw17.VerbSpoilt", spec := "verbSpoilt", unfollowed := true, recurses := true, apart := false }
def VerbSpoiltSaid : Prop := verbSpoiltRow.holds Try.pinned (OpenSpec.ofChange verbSpoiltSpec)

/-- ITS FALSE NEIGHBOUR: 'it returns false'. Refute it at one input. -/
def verbSpoiltWrong : ChangeSpec := { name := "verbSpoilt", fn := fun _ => fun
  | [d1, d2, d3, d4] => { results := [.lit (.bool false)], args := [d1, d2, d3, d4] }
  | _ => none }
def VerbSpoiltWrongFalsely : Prop := verbSpoiltRow.holds Try.pinned (OpenSpec.ofChange verbSpoiltWrong)

/- THE SECOND FORM. 'bulk': how many values and letters a reading holds, each counted each time it is reached (what is shared counts as often as it is met; a slice's spare places count too). A statement '..UptoSaid' is the law's where the arguments, and the package variables that the reading takes, are together of bulk at most 1048576: NARROWER than '..Said'. Prove '..Said' where nothing that the law and all that it calls make is longer than what came in: it says more and counts as full. Else prove '..UptoSaid'. A law counts once. -/
mutual
def uptoBulk {H : Type} : DataW H → Nat
  | .lit (.string bytes) => bytes.length + 1
  | .lit _ => 1
  | .nil => 1
  | .ptr d => uptoBulk d + 1
  | .slice elems spare => uptoBulkAll elems + uptoBulkAll spare + 1
  | .agg parts => uptoBulkAll parts + 1
  | .iface _ d => uptoBulk d + 1
  | .map entries => uptoBulkEntries entries + 1
  | .held _ => 1
def uptoBulkAll {H : Type} : List (DataW H) → Nat
  | [] => 0
  | d :: r => uptoBulk d + uptoBulkAll r
def uptoBulkEntries {H : Type} : List (Lit × DataW H) → Nat
  | [] => 0
  | x :: r => uptoBulkEntry x + uptoBulkEntries r
def uptoBulkEntry {H : Type} : Lit × DataW H → Nat
  | (.string bytes, d) => bytes.length + uptoBulk d + 1
  | (_, d) => uptoBulk d + 1
 end
def uptoSmall : (H : Type) → List (DataW H) → Bool := fun _ ds => decide (uptoBulkAll ds ≤ 1048576)
def OpenSpec.upto (s : _root_.Go.ChangeSpec) : _root_.Go.OpenSpec := { _root_.Go.OpenSpec.ofChange s with cond := some uptoSmall }

/-- 'copyholdlaw17.VerbAsks', WHERE WHAT IT READS IS OF BULK AT MOST 1048576: true; the input reads as it did. -/
def verbAsksUptoRow : OpenClaim := { program := "ytfignanjelebaaa", sum := "fedf18f8edc83e4dbfaddbf7fa09142a94fcac5bab002cf0cd2e7e0ff2886342", func := "copyhold/copyholdlaw17.VerbAsks", spec := "verbAsks", unfollowed := true, recurses := true, apart := false, narrowed := true }
def VerbAsksUptoSaid : Prop := verbAsksUptoRow.holds Try.pinned (OpenSpec.upto verbAsksSpec)

/-- 'copyholdlaw17.VerbAsked', WHERE WHAT IT READS IS OF BULK AT MOST 1048576: true; the input reads as it did. -/
def verbAskedUptoRow : OpenClaim := { program := "ytfignanjelebaaa", sum := "fedf18f8edc83e4dbfaddbf7fa09142a94fcac5bab002cf0cd2e7e0ff2886342", func := "copyhold/copyholdlaw17.VerbAsked", spec := "verbAsked", unfollowed := true, recurses := true, apart := false, narrowed := true }
def VerbAskedUptoSaid : Prop := verbAskedUptoRow.holds Try.pinned (OpenSpec.upto verbAskedSpec)

/-- 'copyholdlaw17.VerbAnswers', WHERE WHAT IT READS IS OF BULK AT MOST 1048576: true; the input reads as it did. -/
def verbAnswersUptoRow : OpenClaim := { program := "ytfignanjelebaaa", sum := "fedf18f8edc83e4dbfaddbf7fa09142a94fcac5bab002cf0cd2e7e0ff2886342", func := "copyhold/copyholdlaw17.VerbAnswers", spec := "verbAnswers", unfollowed := true, recurses := true, apart := false, narrowed := true }
def VerbAnswersUptoSaid : Prop := verbAnswersUptoRow.holds Try.pinned (OpenSpec.upto verbAnswersSpec)

/-- 'copyholdlaw17.VerbCalls', WHERE WHAT IT READS IS OF BULK AT MOST 1048576: true; the input reads as it did. -/
def verbCallsUptoRow : OpenClaim := { program := "ytfignanjelebaaa", sum := "fedf18f8edc83e4dbfaddbf7fa09142a94fcac5bab002cf0cd2e7e0ff2886342", func := "copyhold/copyholdlaw17.VerbCalls", spec := "verbCalls", unfollowed := true, recurses := true, apart := false, narrowed := true }
def VerbCallsUptoSaid : Prop := verbCallsUptoRow.holds Try.pinned (OpenSpec.upto verbCallsSpec)

/-- 'copyholdlaw17.VerbShorts', WHERE WHAT IT READS IS OF BULK AT MOST 1048576: true; the input reads as it did. -/
def verbShortsUptoRow : OpenClaim := { program := "ytfignanjelebaaa", sum := "fedf18f8edc83e4dbfaddbf7fa09142a94fcac5bab002cf0cd2e7e0ff2886342", func := "copyhold/copyholdlaw17.VerbShorts", spec := "verbShorts", unfollowed := true, recurses := true, apart := false, narrowed := true }
def VerbShortsUptoSaid : Prop := verbShortsUptoRow.holds Try.pinned (OpenSpec.upto verbShortsSpec)

/-- 'copyholdlaw17.VerbOne', WHERE WHAT IT READS IS OF BULK AT MOST 1048576: true; the input reads as it did. -/
def verbOneUptoRow : OpenClaim := { program := "ytfignanjelebaaa", sum := "fedf18f8edc83e4dbfaddbf7fa09142a94fcac5bab002cf0cd2e7e0ff2886342", func := "copyhold/copyholdlaw17.VerbOne", spec := "verbOne", unfollowed := true, recurses := true, apart := false, narrowed := true }
def VerbOneUptoSaid : Prop := verbOneUptoRow.holds Try.pinned (OpenSpec.upto verbOneSpec)

/-- 'copyholdlaw17.VerbSpoilt', WHERE WHAT IT READS IS OF BULK AT MOST 1048576: true; the input reads as it did. -/
def verbSpoiltUptoRow : OpenClaim := { program := "ytfignanjelebaaa", sum := "fedf18f8edc83e4dbfaddbf7fa09142a94fcac5bab002cf0cd2e7e0ff2886342", func := "copyhold/copyholdlaw17.VerbSpoilt", spec := "verbSpoilt", unfollowed := true, recurses := true, apart := false, narrowed := true }
def VerbSpoiltUptoSaid : Prop := verbSpoiltUptoRow.holds Try.pinned (OpenSpec.upto verbSpoiltSpec)

end Rows
end Go.Proofs.Ytfignanjelebaaa
