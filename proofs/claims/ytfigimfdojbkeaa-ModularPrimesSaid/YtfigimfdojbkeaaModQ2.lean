/-
  Layer 3, plain facts: the walk over primes, part 1.
  Layer 3, plain facts: the walk over primes, part 2.
-/
import Derived.Test.YtfigimfdojbkeaaModQ0
set_option linter.unusedSimpArgs false
set_option linter.unusedVariables false
namespace Go.Proofs.Ytfigimfdojbkeaa.Gp
set_option maxRecDepth 100000 in
theorem wk0 : Nat.beq (run 16 65393 pp) 64570421 = true := by decide +kernel
set_option maxRecDepth 100000 in
theorem wk1 : Nat.beq (run 16 64570421 pp) 128983307 = true := by decide +kernel
set_option maxRecDepth 100000 in
theorem wk2 : Nat.beq (run 16 128983307 pp) 193373239 = true := by decide +kernel
set_option maxRecDepth 100000 in
theorem wk3 : Nat.beq (run 16 193373239 pp) 257741717 = true := by decide +kernel
set_option maxRecDepth 100000 in
theorem wk4 : Nat.beq (run 16 257741717 pp) 322083059 = true := by decide +kernel
set_option maxRecDepth 100000 in
theorem wk5 : Nat.beq (run 16 322083059 pp) 386428043 = true := by decide +kernel
set_option maxRecDepth 100000 in
theorem wk6 : Nat.beq (run 16 386428043 pp) 450755399 = true := by decide +kernel
set_option maxRecDepth 100000 in
theorem wk7 : Nat.beq (run 16 450755399 pp) 515067127 = true := by decide +kernel
set_option maxRecDepth 100000 in
theorem wk8 : Nat.beq (run 16 515067127 pp) 579374801 = true := by decide +kernel
end Go.Proofs.Ytfigimfdojbkeaa.Gp

namespace Go.Proofs.Ytfigimfdojbkeaa.Gp
set_option maxRecDepth 100000 in
theorem wk9 : Nat.beq (run 16 579374801 pp) 643673783 = true := by decide +kernel
set_option maxRecDepth 100000 in
theorem wk10 : Nat.beq (run 16 643673783 pp) 707970121 = true := by decide +kernel
set_option maxRecDepth 100000 in
theorem wk11 : Nat.beq (run 16 707970121 pp) 772260233 = true := by decide +kernel
set_option maxRecDepth 100000 in
theorem wk12 : Nat.beq (run 16 772260233 pp) 836551829 = true := by decide +kernel
set_option maxRecDepth 100000 in
theorem wk13 : Nat.beq (run 16 836551829 pp) 900828013 = true := by decide +kernel
set_option maxRecDepth 100000 in
theorem wk14 : Nat.beq (run 16 900828013 pp) 965110039 = true := by decide +kernel
set_option maxRecDepth 100000 in
theorem wk15 : Nat.beq (run 16 965110039 pp) 1029378071 = true := by decide +kernel
set_option maxRecDepth 100000 in
theorem wk16 : Nat.beq (run 16 1029378071 pp) 1093645951 = true := by decide +kernel
set_option maxRecDepth 100000 in
theorem wk17 : Nat.beq (run 16 1093645951 pp) 1157906153 = true := by decide +kernel
end Go.Proofs.Ytfigimfdojbkeaa.Gp
