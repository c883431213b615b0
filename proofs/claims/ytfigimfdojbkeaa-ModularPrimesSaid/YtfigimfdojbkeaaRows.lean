/-
  No cell of these rows narrows 'for every input' (looked for: loops, veiled, ifaces, maps, wideKeys, modest, calm, conditions, laid).
  DERIVED. THE GIVEN ROWS OF THIS SEAT. 14 by the template 'for every input the law returns true; each argument reads behind the call as it read before'; 0 by the template 'total and deterministic' (their statements: YtfigimfdojbkeaaTotals.lean).
  GIVEN WITH THE SEED: the statements are not yours to turn. If you find one false, say at which input.
  Laid BY PROGRAM, IN A SANDBOX (cutbox-rows.mjs): the forced cells as the released guide's own fill.sh prints them over the translation d110dd82e7252bee… (all of the seat's roots in one cut). By AI agents, Wed Nov 11 2026. No macro, syntax, notation, axiom, sorry.
-/
import Derived.Test.YtfigimfdojbkeaaChecked
import GoSem.Claim
import GoSem.ClaimJoined
import GoSem.ClaimMapViews
import Derived.JoinedTies
import Derived.KernelRfl
namespace Go.Proofs.Ytfigimfdojbkeaa
/- THE CELL 'sum', in the pinned program and in every row, IS THE sha256 OF THE DUMP (.gsa) THAT YtfigimfdojbkeaaProg.lean LOADS. Nothing in Lean hashes anything: it is a label: what it is worth is what the hold of that sum in a sandbox is worth. -/
noncomputable def Try.pinned : Pinned := { name := "ytfigimfdojbkeaa", sum := "d110dd82e7252beed1bceba7ac169e794ba845f92ca01869fd7adb75443a0c07", checked := Try.checked }
namespace Rows
def none {H : Type} : Left H := { results := [], args := [] }

/-- 'eliminantlaw01.IntegerMatchesReference': WHATEVER THE INPUT: true; the input reads as it did. -/
def integerMatchesReferenceSpec : ChangeSpec := { name := "integerMatchesReference", fn := fun _ => fun
  | [d1, d2, d3] => { results := [.lit (.bool true)], args := [d1, d2, d3] }
  | _ => none }
def integerMatchesReferenceRow : OpenClaim := { program := "ytfigimfdojbkeaa", sum := "d110dd82e7252beed1bceba7ac169e794ba845f92ca01869fd7adb75443a0c07", func := "eliminant/eliminantlaw01.IntegerMatchesReference", spec := "integerMatchesReference", recurses := true, apart := false }
def IntegerMatchesReferenceSaid : Prop := integerMatchesReferenceRow.holds Try.pinned (OpenSpec.ofChange integerMatchesReferenceSpec)

/-- ITS FALSE NEIGHBOUR: 'it returns false'. Refute it at one input. -/
def integerMatchesReferenceWrong : ChangeSpec := { name := "integerMatchesReference", fn := fun _ => fun
  | [d1, d2, d3] => { results := [.lit (.bool false)], args := [d1, d2, d3] }
  | _ => none }
def IntegerMatchesReferenceWrongFalsely : Prop := integerMatchesReferenceRow.holds Try.pinned (OpenSpec.ofChange integerMatchesReferenceWrong)

/-- 'eliminantlaw01.IntegerCanonical': WHATEVER THE INPUT: true; the input reads as it did. -/
def integerCanonicalSpec : ChangeSpec := { name := "integerCanonical", fn := fun _ => fun
  | [d1, d2] => { results := [.lit (.bool true)], args := [d1, d2] }
  | _ => none }
def integerCanonicalRow : OpenClaim := { program := "ytfigimfdojbkeaa", sum := "d110dd82e7252beed1bceba7ac169e794ba845f92ca01869fd7adb75443a0c07", func := "eliminant/eliminantlaw01.IntegerCanonical", spec := "integerCanonical", recurses := true, apart := false }
def IntegerCanonicalSaid : Prop := integerCanonicalRow.holds Try.pinned (OpenSpec.ofChange integerCanonicalSpec)

/-- ITS FALSE NEIGHBOUR: 'it returns false'. Refute it at one input. -/
def integerCanonicalWrong : ChangeSpec := { name := "integerCanonical", fn := fun _ => fun
  | [d1, d2] => { results := [.lit (.bool false)], args := [d1, d2] }
  | _ => none }
def IntegerCanonicalWrongFalsely : Prop := integerCanonicalRow.holds Try.pinned (OpenSpec.ofChange integerCanonicalWrong)

/-- 'eliminantlaw01.IntegerOrder': WHATEVER THE INPUT: true; the input reads as it did. -/
def integerOrderSpec : ChangeSpec := { name := "integerOrder", fn := fun _ => fun
  | [d1, d2, d3] => { results := [.lit (.bool true)], args := [d1, d2, d3] }
  | _ => none }
def integerOrderRow : OpenClaim := { program := "ytfigimfdojbkeaa", sum := "d110dd82e7252beed1bceba7ac169e794ba845f92ca01869fd7adb75443a0c07", func := "eliminant/eliminantlaw01.IntegerOrder", spec := "integerOrder", recurses := true, apart := false }
def IntegerOrderSaid : Prop := integerOrderRow.holds Try.pinned (OpenSpec.ofChange integerOrderSpec)

/-- ITS FALSE NEIGHBOUR: 'it returns false'. Refute it at one input. -/
def integerOrderWrong : ChangeSpec := { name := "integerOrder", fn := fun _ => fun
  | [d1, d2, d3] => { results := [.lit (.bool false)], args := [d1, d2, d3] }
  | _ => none }
def IntegerOrderWrongFalsely : Prop := integerOrderRow.holds Try.pinned (OpenSpec.ofChange integerOrderWrong)

/-- 'eliminantlaw01.IntegerParses': WHATEVER THE INPUT: true; the input reads as it did. -/
def integerParsesSpec : ChangeSpec := { name := "integerParses", fn := fun _ => fun
  | [d1, d2] => { results := [.lit (.bool true)], args := [d1, d2] }
  | _ => none }
def integerParsesRow : OpenClaim := { program := "ytfigimfdojbkeaa", sum := "d110dd82e7252beed1bceba7ac169e794ba845f92ca01869fd7adb75443a0c07", func := "eliminant/eliminantlaw01.IntegerParses", spec := "integerParses", recurses := true, apart := false }
def IntegerParsesSaid : Prop := integerParsesRow.holds Try.pinned (OpenSpec.ofChange integerParsesSpec)

/-- ITS FALSE NEIGHBOUR: 'it returns false'. Refute it at one input. -/
def integerParsesWrong : ChangeSpec := { name := "integerParses", fn := fun _ => fun
  | [d1, d2] => { results := [.lit (.bool false)], args := [d1, d2] }
  | _ => none }
def IntegerParsesWrongFalsely : Prop := integerParsesRow.holds Try.pinned (OpenSpec.ofChange integerParsesWrong)

/-- 'eliminantlaw03.ModularMatchesReference': WHATEVER THE INPUT: true; the input reads as it did. -/
def modularMatchesReferenceSpec : ChangeSpec := { name := "modularMatchesReference", fn := fun _ => fun
  | [d1, d2, d3] => { results := [.lit (.bool true)], args := [d1, d2, d3] }
  | _ => none }
def modularMatchesReferenceRow : OpenClaim := { program := "ytfigimfdojbkeaa", sum := "d110dd82e7252beed1bceba7ac169e794ba845f92ca01869fd7adb75443a0c07", func := "eliminant/eliminantlaw03.ModularMatchesReference", spec := "modularMatchesReference", unfollowed := true, recurses := true, apart := false }
def ModularMatchesReferenceSaid : Prop := modularMatchesReferenceRow.holds Try.pinned (OpenSpec.ofChange modularMatchesReferenceSpec)

/-- ITS FALSE NEIGHBOUR: 'it returns false'. Refute it at one input. -/
def modularMatchesReferenceWrong : ChangeSpec := { name := "modularMatchesReference", fn := fun _ => fun
  | [d1, d2, d3] => { results := [.lit (.bool false)], args := [d1, d2, d3] }
  | _ => none }
def ModularMatchesReferenceWrongFalsely : Prop := modularMatchesReferenceRow.holds Try.pinned (OpenSpec.ofChange modularMatchesReferenceWrong)

/-- 'eliminantlaw03.ModularPrimes': WHATEVER THE INPUT: true; the input reads as it did. -/
def modularPrimesSpec : ChangeSpec := { name := "modularPrimes", fn := fun _ => fun
  | [d1, d2] => { results := [.lit (.bool true)], args := [d1, d2] }
  | _ => none }
def modularPrimesRow : OpenClaim := { program := "ytfigimfdojbkeaa", sum := "d110dd82e7252beed1bceba7ac169e794ba845f92ca01869fd7adb75443a0c07", func := "eliminant/eliminantlaw03.ModularPrimes", spec := "modularPrimes", unfollowed := true, recurses := true, apart := false }
def ModularPrimesSaid : Prop := modularPrimesRow.holds Try.pinned (OpenSpec.ofChange modularPrimesSpec)

/-- ITS FALSE NEIGHBOUR: 'it returns false'. Refute it at one input. -/
def modularPrimesWrong : ChangeSpec := { name := "modularPrimes", fn := fun _ => fun
  | [d1, d2] => { results := [.lit (.bool false)], args := [d1, d2] }
  | _ => none }
def ModularPrimesWrongFalsely : Prop := modularPrimesRow.holds Try.pinned (OpenSpec.ofChange modularPrimesWrong)

/-- 'eliminantlaw03.ModularInverts': WHATEVER THE INPUT: true; the input reads as it did. -/
def modularInvertsSpec : ChangeSpec := { name := "modularInverts", fn := fun _ => fun
  | [d1, d2, d3] => { results := [.lit (.bool true)], args := [d1, d2, d3] }
  | _ => none }
def modularInvertsRow : OpenClaim := { program := "ytfigimfdojbkeaa", sum := "d110dd82e7252beed1bceba7ac169e794ba845f92ca01869fd7adb75443a0c07", func := "eliminant/eliminantlaw03.ModularInverts", spec := "modularInverts", unfollowed := true, recurses := true, apart := false }
def ModularInvertsSaid : Prop := modularInvertsRow.holds Try.pinned (OpenSpec.ofChange modularInvertsSpec)

/-- ITS FALSE NEIGHBOUR: 'it returns false'. Refute it at one input. -/
def modularInvertsWrong : ChangeSpec := { name := "modularInverts", fn := fun _ => fun
  | [d1, d2, d3] => { results := [.lit (.bool false)], args := [d1, d2, d3] }
  | _ => none }
def ModularInvertsWrongFalsely : Prop := modularInvertsRow.holds Try.pinned (OpenSpec.ofChange modularInvertsWrong)

/-- 'eliminantlaw03.ModularReduces': WHATEVER THE INPUT: true; the input reads as it did. -/
def modularReducesSpec : ChangeSpec := { name := "modularReduces", fn := fun _ => fun
  | [d1, d2, d3] => { results := [.lit (.bool true)], args := [d1, d2, d3] }
  | _ => none }
def modularReducesRow : OpenClaim := { program := "ytfigimfdojbkeaa", sum := "d110dd82e7252beed1bceba7ac169e794ba845f92ca01869fd7adb75443a0c07", func := "eliminant/eliminantlaw03.ModularReduces", spec := "modularReduces", unfollowed := true, recurses := true, apart := false }
def ModularReducesSaid : Prop := modularReducesRow.holds Try.pinned (OpenSpec.ofChange modularReducesSpec)

/-- ITS FALSE NEIGHBOUR: 'it returns false'. Refute it at one input. -/
def modularReducesWrong : ChangeSpec := { name := "modularReduces", fn := fun _ => fun
  | [d1, d2, d3] => { results := [.lit (.bool false)], args := [d1, d2, d3] }
  | _ => none }
def ModularReducesWrongFalsely : Prop := modularReducesRow.holds Try.pinned (OpenSpec.ofChange modularReducesWrong)

/-- 'eliminantlaw03.ModularJoins': WHATEVER THE INPUT: true; the input reads as it did. -/
def modularJoinsSpec : ChangeSpec := { name := "modularJoins", fn := fun _ => fun
  | [d1, d2, d3] => { results := [.lit (.bool true)], args := [d1, d2, d3] }
  | _ => none }
def modularJoinsRow : OpenClaim := { program := "ytfigimfdojbkeaa", sum := "d110dd82e7252beed1bceba7ac169e794ba845f92ca01869fd7adb75443a0c07", func := "eliminant/eliminantlaw03.ModularJoins", spec := "modularJoins", unfollowed := true, recurses := true, apart := false }
def ModularJoinsSaid : Prop := modularJoinsRow.holds Try.pinned (OpenSpec.ofChange modularJoinsSpec)

/-- ITS FALSE NEIGHBOUR: 'it returns false'. Refute it at one input. -/
def modularJoinsWrong : ChangeSpec := { name := "modularJoins", fn := fun _ => fun
  | [d1, d2, d3] => { results := [.lit (.bool false)], args := [d1, d2, d3] }
  | _ => none }
def ModularJoinsWrongFalsely : Prop := modularJoinsRow.holds Try.pinned (OpenSpec.ofChange modularJoinsWrong)

/-- 'eliminantlaw03.ModularRebuilds': WHATEVER THE INPUT: true; the input reads as it did. -/
def modularRebuildsSpec : ChangeSpec := { name := "modularRebuilds", fn := fun _ => fun
  | [d1, d2, d3] => { results := [.lit (.bool true)], args := [d1, d2, d3] }
  | _ => none }
def modularRebuildsRow : OpenClaim := { program := "ytfigimfdojbkeaa", sum := "d110dd82e7252beed1bceba7ac169e794ba845f92ca01869fd7adb75443a0c07", func := "eliminant/eliminantlaw03.ModularRebuilds", spec := "modularRebuilds", unfollowed := true, recurses := true, apart := false }
def ModularRebuildsSaid : Prop := modularRebuildsRow.holds Try.pinned (OpenSpec.ofChange modularRebuildsSpec)

/-- ITS FALSE NEIGHBOUR: 'it returns false'. Refute it at one input. -/
def modularRebuildsWrong : ChangeSpec := { name := "modularRebuilds", fn := fun _ => fun
  | [d1, d2, d3] => { results := [.lit (.bool false)], args := [d1, d2, d3] }
  | _ => none }
def ModularRebuildsWrongFalsely : Prop := modularRebuildsRow.holds Try.pinned (OpenSpec.ofChange modularRebuildsWrong)

/-- 'eliminantlaw03.ModularSmall': WHATEVER THE INPUT: true; the input reads as it did. -/
def modularSmallSpec : ChangeSpec := { name := "modularSmall", fn := fun _ => fun
  | [d1, d2] => { results := [.lit (.bool true)], args := [d1, d2] }
  | _ => none }
def modularSmallRow : OpenClaim := { program := "ytfigimfdojbkeaa", sum := "d110dd82e7252beed1bceba7ac169e794ba845f92ca01869fd7adb75443a0c07", func := "eliminant/eliminantlaw03.ModularSmall", spec := "modularSmall", unfollowed := true, recurses := true, apart := false }
def ModularSmallSaid : Prop := modularSmallRow.holds Try.pinned (OpenSpec.ofChange modularSmallSpec)

/-- ITS FALSE NEIGHBOUR: 'it returns false'. Refute it at one input. -/
def modularSmallWrong : ChangeSpec := { name := "modularSmall", fn := fun _ => fun
  | [d1, d2] => { results := [.lit (.bool false)], args := [d1, d2] }
  | _ => none }
def ModularSmallWrongFalsely : Prop := modularSmallRow.holds Try.pinned (OpenSpec.ofChange modularSmallWrong)

/-- 'eliminantlaw05.OrderAdmissible': WHATEVER THE INPUT: true; the input reads as it did. -/
def orderAdmissibleSpec : ChangeSpec := { name := "orderAdmissible", fn := fun _ => fun
  | [d1, d2] => { results := [.lit (.bool true)], args := [d1, d2] }
  | _ => none }
def orderAdmissibleRow : OpenClaim := { program := "ytfigimfdojbkeaa", sum := "d110dd82e7252beed1bceba7ac169e794ba845f92ca01869fd7adb75443a0c07", func := "eliminant/eliminantlaw05.OrderAdmissible", spec := "orderAdmissible", unfollowed := true, recurses := true, apart := false }
def OrderAdmissibleSaid : Prop := orderAdmissibleRow.holds Try.pinned (OpenSpec.ofChange orderAdmissibleSpec)

/-- ITS FALSE NEIGHBOUR: 'it returns false'. Refute it at one input. -/
def orderAdmissibleWrong : ChangeSpec := { name := "orderAdmissible", fn := fun _ => fun
  | [d1, d2] => { results := [.lit (.bool false)], args := [d1, d2] }
  | _ => none }
def OrderAdmissibleWrongFalsely : Prop := orderAdmissibleRow.holds Try.pinned (OpenSpec.ofChange orderAdmissibleWrong)

/-- 'eliminantlaw05.OrderNamed': WHATEVER THE INPUT: true; the input reads as it did. -/
def orderNamedSpec : ChangeSpec := { name := "orderNamed", fn := fun _ => fun
  | [d1, d2] => { results := [.lit (.bool true)], args := [d1, d2] }
  | _ => none }
def orderNamedRow : OpenClaim := { program := "ytfigimfdojbkeaa", sum := "d110dd82e7252beed1bceba7ac169e794ba845f92ca01869fd7adb75443a0c07", func := "eliminant/eliminantlaw05.OrderNamed", spec := "orderNamed", unfollowed := true, recurses := true, apart := false }
def OrderNamedSaid : Prop := orderNamedRow.holds Try.pinned (OpenSpec.ofChange orderNamedSpec)

/-- ITS FALSE NEIGHBOUR: 'it returns false'. Refute it at one input. -/
def orderNamedWrong : ChangeSpec := { name := "orderNamed", fn := fun _ => fun
  | [d1, d2] => { results := [.lit (.bool false)], args := [d1, d2] }
  | _ => none }
def OrderNamedWrongFalsely : Prop := orderNamedRow.holds Try.pinned (OpenSpec.ofChange orderNamedWrong)

/-- 'eliminantlaw05.OrderEliminates': WHATEVER THE INPUT: true; the input reads as it did. -/
def orderEliminatesSpec : ChangeSpec := { name := "orderEliminates", fn := fun _ => fun
  | [d1, d2, d3] => { results := [.lit (.bool true)], args := [d1, d2, d3] }
  | _ => none }
def orderEliminatesRow : OpenClaim := { program := "ytfigimfdojbkeaa", sum := "d110dd82e7252beed1bceba7ac169e794ba845f92ca01869fd7adb75443a0c07", func := "eliminant/eliminantlaw05.OrderEliminates", spec := "orderEliminates", unfollowed := true, recurses := true, apart := false }
def OrderEliminatesSaid : Prop := orderEliminatesRow.holds Try.pinned (OpenSpec.ofChange orderEliminatesSpec)

/-- ITS FALSE NEIGHBOUR: 'it returns false'. Refute it at one input. -/
def orderEliminatesWrong : ChangeSpec := { name := "orderEliminates", fn := fun _ => fun
  | [d1, d2, d3] => { results := [.lit (.bool false)], args := [d1, d2, d3] }
  | _ => none }
def OrderEliminatesWrongFalsely : Prop := orderEliminatesRow.holds Try.pinned (OpenSpec.ofChange orderEliminatesWrong)

/- THE SECOND FORM. 'bulk': how many values and letters a reading holds, each counted each time it is reached (what is shared counts as often as it is met; a slice's spare places count too). A statement '..UptoSaid' is the law's where the arguments, and the package variables that the reading takes, are together of bulk at most 1048576: NARROWER than '..Said'. Prove '..Said' where nothing that the law and all that it calls make is longer than what came in: it says more and counts as full. Else prove '..UptoSaid'. A law counts once. -/
mutual
def uptoBulk {H : Type} : DataW H → Nat
  | .lit (.string bytes) => bytes.length + 1
  | .lit _ => 1
  | .nil => 1
  | .ptr d => uptoBulk d + 1
  | .slice elems spare => uptoBulkAll elems + uptoBulkAll spare + 1
  | .agg parts => uptoBulkAll parts + 1
  | .iface _ d => uptoBulk d + 1
  | .map entries => uptoBulkEntries entries + 1
  | .held _ => 1
def uptoBulkAll {H : Type} : List (DataW H) → Nat
  | [] => 0
  | d :: r => uptoBulk d + uptoBulkAll r
def uptoBulkEntries {H : Type} : List (Lit × DataW H) → Nat
  | [] => 0
  | x :: r => uptoBulkEntry x + uptoBulkEntries r
def uptoBulkEntry {H : Type} : Lit × DataW H → Nat
  | (.string bytes, d) => bytes.length + uptoBulk d + 1
  | (_, d) => uptoBulk d + 1
 end
def uptoSmall : (H : Type) → List (DataW H) → Bool := fun _ ds => decide (uptoBulkAll ds ≤ 1048576)
def OpenSpec.upto (s : _root_.Go.ChangeSpec) : _root_.Go.OpenSpec := { _root_.Go.OpenSpec.ofChange s with cond := some uptoSmall }

/-- 'eliminantlaw01.IntegerMatchesReference', WHERE WHAT IT READS IS OF BULK AT MOST 1048576: true; the input reads as it did. -/
def integerMatchesReferenceUptoRow : OpenClaim := { program := "ytfigimfdojbkeaa", sum := "d110dd82e7252beed1bceba7ac169e794ba845f92ca01869fd7adb75443a0c07", func := "eliminant/eliminantlaw01.IntegerMatchesReference", spec := "integerMatchesReference", recurses := true, apart := false, narrowed := true }
def IntegerMatchesReferenceUptoSaid : Prop := integerMatchesReferenceUptoRow.holds Try.pinned (OpenSpec.upto integerMatchesReferenceSpec)

/-- 'eliminantlaw01.IntegerCanonical', WHERE WHAT IT READS IS OF BULK AT MOST 1048576: true; the input reads as it did. -/
def integerCanonicalUptoRow : OpenClaim := { program := "ytfigimfdojbkeaa", sum := "d110dd82e7252beed1bceba7ac169e794ba845f92ca01869fd7adb75443a0c07", func := "eliminant/eliminantlaw01.IntegerCanonical", spec := "integerCanonical", recurses := true, apart := false, narrowed := true }
def IntegerCanonicalUptoSaid : Prop := integerCanonicalUptoRow.holds Try.pinned (OpenSpec.upto integerCanonicalSpec)

/-- 'eliminantlaw01.IntegerOrder', WHERE WHAT IT READS IS OF BULK AT MOST 1048576: true; the input reads as it did. -/
def integerOrderUptoRow : OpenClaim := { program := "ytfigimfdojbkeaa", sum := "d110dd82e7252beed1bceba7ac169e794ba845f92ca01869fd7adb75443a0c07", func := "eliminant/eliminantlaw01.IntegerOrder", spec := "integerOrder", recurses := true, apart := false, narrowed := true }
def IntegerOrderUptoSaid : Prop := integerOrderUptoRow.holds Try.pinned (OpenSpec.upto integerOrderSpec)

/-- 'eliminantlaw01.IntegerParses', WHERE WHAT IT READS IS OF BULK AT MOST 1048576: true; the input reads as it did. -/
def integerParsesUptoRow : OpenClaim := { program := "ytfigimfdojbkeaa", sum := "d110dd82e7252beed1bceba7ac169e794ba845f92ca01869fd7adb75443a0c07", func := "eliminant/eliminantlaw01.IntegerParses", spec := "integerParses", recurses := true, apart := false, narrowed := true }
def IntegerParsesUptoSaid : Prop := integerParsesUptoRow.holds Try.pinned (OpenSpec.upto integerParsesSpec)

/-- 'eliminantlaw03.ModularMatchesReference', WHERE WHAT IT READS IS OF BULK AT MOST 1048576: true; the input reads as it did. -/
def modularMatchesReferenceUptoRow : OpenClaim := { program := "ytfigimfdojbkeaa", sum := "d110dd82e7252beed1bceba7ac169e794ba845f92ca01869fd7adb75443a0c07", func := "eliminant/eliminantlaw03.ModularMatchesReference", spec := "modularMatchesReference", unfollowed := true, recurses := true, apart := false, narrowed := true }
def ModularMatchesReferenceUptoSaid : Prop := modularMatchesReferenceUptoRow.holds Try.pinned (OpenSpec.upto modularMatchesReferenceSpec)

/-- 'eliminantlaw03.ModularPrimes', WHERE WHAT IT READS IS OF BULK AT MOST 1048576: true; the input reads as it did. -/
def modularPrimesUptoRow : OpenClaim := { program := "ytfigimfdojbkeaa", sum := "d110dd82e7252beed1bceba7ac169e794ba845f92ca01869fd7adb75443a0c07", func := "eliminant/eliminantlaw03.ModularPrimes", spec := "modularPrimes", unfollowed := true, recurses := true, apart := false, narrowed := true }
def ModularPrimesUptoSaid : Prop := modularPrimesUptoRow.holds Try.pinned (OpenSpec.upto modularPrimesSpec)

/-- 'eliminantlaw03.ModularInverts', WHERE WHAT IT READS IS OF BULK AT MOST 1048576: true; the input reads as it did. -/
def modularInvertsUptoRow : OpenClaim := { program := "ytfigimfdojbkeaa", sum := "d110dd82e7252beed1bceba7ac169e794ba845f92ca01869fd7adb75443a0c07", func := "eliminant/eliminantlaw03.ModularInverts", spec := "modularInverts", unfollowed := true, recurses := true, apart := false, narrowed := true }
def ModularInvertsUptoSaid : Prop := modularInvertsUptoRow.holds Try.pinned (OpenSpec.upto modularInvertsSpec)

/-- 'eliminantlaw03.ModularReduces', WHERE WHAT IT READS IS OF BULK AT MOST 1048576: true; the input reads as it did. -/
def modularReducesUptoRow : OpenClaim := { program := "ytfigimfdojbkeaa", sum := "d110dd82e7252beed1bceba7ac169e794ba845f92ca01869fd7adb75443a0c07", func := "eliminant/eliminantlaw03.ModularReduces", spec := "modularReduces", unfollowed := true, recurses := true, apart := false, narrowed := true }
def ModularReducesUptoSaid : Prop := modularReducesUptoRow.holds Try.pinned (OpenSpec.upto modularReducesSpec)

/-- 'eliminantlaw03.ModularJoins', WHERE WHAT IT READS IS OF BULK AT MOST 1048576: true; the input reads as it did. -/
def modularJoinsUptoRow : OpenClaim := { program := "ytfigimfdojbkeaa", sum := "d110dd82e7252beed1bceba7ac169e794ba845f92ca01869fd7adb75443a0c07", func := "eliminant/eliminantlaw03.ModularJoins", spec := "modularJoins", unfollowed := true, recurses := true, apart := false, narrowed := true }
def ModularJoinsUptoSaid : Prop := modularJoinsUptoRow.holds Try.pinned (OpenSpec.upto modularJoinsSpec)

/-- 'eliminantlaw03.ModularRebuilds', WHERE WHAT IT READS IS OF BULK AT MOST 1048576: true; the input reads as it did. -/
def modularRebuildsUptoRow : OpenClaim := { program := "ytfigimfdojbkeaa", sum := "d110dd82e7252beed1bceba7ac169e794ba845f92ca01869fd7adb75443a0c07", func := "eliminant/eliminantlaw03.ModularRebuilds", spec := "modularRebuilds", unfollowed := true, recurses := true, apart := false, narrowed := true }
def ModularRebuildsUptoSaid : Prop := modularRebuildsUptoRow.holds Try.pinned (OpenSpec.upto modularRebuildsSpec)

/-- 'eliminantlaw03.ModularSmall', WHERE WHAT IT READS IS OF BULK AT MOST 1048576: true; the input reads as it did. -/
def modularSmallUptoRow : OpenClaim := { program := "ytfigimfdojbkeaa", sum := "d110dd82e7252beed1bceba7ac169e794ba845f92ca01869fd7adb75443a0c07", func := "eliminant/eliminantlaw03.ModularSmall", spec := "modularSmall", unfollowed := true, recurses := true, apart := false, narrowed := true }
def ModularSmallUptoSaid : Prop := modularSmallUptoRow.holds Try.pinned (OpenSpec.upto modularSmallSpec)

/-- 'eliminantlaw05.OrderAdmissible', WHERE WHAT IT READS IS OF BULK AT MOST 1048576: true; the input reads as it did. -/
def orderAdmissibleUptoRow : OpenClaim := { program := "ytfigimfdojbkeaa", sum := "d110dd82e7252beed1bceba7ac169e794ba845f92ca01869fd7adb75443a0c07", func := "eliminant/eliminantlaw05.OrderAdmissible", spec := "orderAdmissible", unfollowed := true, recurses := true, apart := false, narrowed := true }
def OrderAdmissibleUptoSaid : Prop := orderAdmissibleUptoRow.holds Try.pinned (OpenSpec.upto orderAdmissibleSpec)

/-- 'eliminantlaw05.OrderNamed', WHERE WHAT IT READS IS OF BULK AT MOST 1048576: true; the input reads as it did. -/
def orderNamedUptoRow : OpenClaim := { program := "ytfigimfdojbkeaa", sum := "d110dd82e7252beed1bceba7ac169e794ba845f92ca01869fd7adb75443a0c07", func := "eliminant/eliminantlaw05.OrderNamed", spec := "orderNamed", unfollowed := true, recurses := true, apart := false, narrowed := true }
def OrderNamedUptoSaid : Prop := orderNamedUptoRow.holds Try.pinned (OpenSpec.upto orderNamedSpec)

/-- 'eliminantlaw05.OrderEliminates', WHERE WHAT IT READS IS OF BULK AT MOST 1048576: true; the input reads as it did. -/
def orderEliminatesUptoRow : OpenClaim := { program := "ytfigimfdojbkeaa", sum := "d110dd82e7252beed1bceba7ac169e794ba845f92ca01869fd7adb75443a0c07", func := "eliminant/eliminantlaw05.OrderEliminates", spec := "orderEliminates", unfollowed := true, recurses := true, apart := false, narrowed := true }
def OrderEliminatesUptoSaid : Prop := orderEliminatesUptoRow.holds Try.pinned (OpenSpec.upto orderEliminatesSpec)

end Rows
end Go.Proofs.Ytfigimfdojbkeaa
