/-
  Layer 3, plain facts: the walk over primes, part 3.
  Layer 3, plain facts: the walk over primes, part 4.
-/
import Derived.Test.YtfigimfdojbkeaaModQ0
set_option linter.unusedSimpArgs false
set_option linter.unusedVariables false
namespace Go.Proofs.Ytfigimfdojbkeaa.Gp
set_option maxRecDepth 100000 in
theorem wk18 : Nat.beq (run 16 1157906153 pp) 1222162241 = true := by decide +kernel
set_option maxRecDepth 100000 in
theorem wk19 : Nat.beq (run 16 1222162241 pp) 1286412863 = true := by decide +kernel
set_option maxRecDepth 100000 in
theorem wk20 : Nat.beq (run 16 1286412863 pp) 1350670037 = true := by decide +kernel
set_option maxRecDepth 100000 in
theorem wk21 : Nat.beq (run 16 1350670037 pp) 1414916791 = true := by decide +kernel
set_option maxRecDepth 100000 in
theorem wk22 : Nat.beq (run 16 1414916791 pp) 1479168569 = true := by decide +kernel
set_option maxRecDepth 100000 in
theorem wk23 : Nat.beq (run 16 1479168569 pp) 1543408021 = true := by decide +kernel
set_option maxRecDepth 100000 in
theorem wk24 : Nat.beq (run 16 1543408021 pp) 1607654821 = true := by decide +kernel
set_option maxRecDepth 100000 in
theorem wk25 : Nat.beq (run 16 1607654821 pp) 1671892583 = true := by decide +kernel
end Go.Proofs.Ytfigimfdojbkeaa.Gp

namespace Go.Proofs.Ytfigimfdojbkeaa.Gp
set_option maxRecDepth 100000 in
theorem wk26 : Nat.beq (run 16 1671892583 pp) 1736124959 = true := by decide +kernel
set_option maxRecDepth 100000 in
theorem wk27 : Nat.beq (run 16 1736124959 pp) 1800356687 = true := by decide +kernel
set_option maxRecDepth 100000 in
theorem wk28 : Nat.beq (run 16 1800356687 pp) 1864586743 = true := by decide +kernel
set_option maxRecDepth 100000 in
theorem wk29 : Nat.beq (run 16 1864586743 pp) 1928814653 = true := by decide +kernel
set_option maxRecDepth 100000 in
theorem wk30 : Nat.beq (run 16 1928814653 pp) 1993042763 = true := by decide +kernel
set_option maxRecDepth 100000 in
theorem wk31 : Nat.beq (run 16 1993042763 pp) 2057272831 = true := by decide +kernel
set_option maxRecDepth 100000 in
theorem wk32 : Nat.beq (run 16 2057272831 pp) 2121500573 = true := by decide +kernel
set_option maxRecDepth 100000 in
theorem wk33 : Nat.beq (run 14 2121500573 pp) 2137558867 = true := by decide +kernel
set_option maxRecDepth 100000 in
theorem wk34 : Nat.beq (run 13 2137558867 pp) 2145584047 = true := by decide +kernel
set_option maxRecDepth 100000 in
theorem wk35 : Nat.beq (run 10 2145584047 pp) 2146587413 = true := by decide +kernel
set_option maxRecDepth 100000 in
theorem wk36 : Nat.beq (run 9 2146587413 pp) 2147087629 = true := by decide +kernel
set_option maxRecDepth 100000 in
theorem wk37 : Nat.beq (run 8 2147087629 pp) 2147338463 = true := by decide +kernel
set_option maxRecDepth 100000 in
theorem wk38 : Nat.beq (run 7 2147338463 pp) 2147463767 = true := by decide +kernel
set_option maxRecDepth 100000 in
theorem wk39 : Nat.beq (run 4 2147463767 pp) 2147479489 = true := by decide +kernel
set_option maxRecDepth 100000 in
theorem wk40 : Nat.beq (run 2 2147479489 pp) 2147483353 = true := by decide +kernel
end Go.Proofs.Ytfigimfdojbkeaa.Gp
