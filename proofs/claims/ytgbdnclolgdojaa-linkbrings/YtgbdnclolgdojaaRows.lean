/-
  No cell of these rows narrows 'for every input' (looked for: loops, veiled, ifaces, maps, wideKeys, modest, calm, conditions, laid).
  DERIVED. THE GIVEN ROWS OF THIS SEAT. 3 by the template 'for every input the law returns true; each argument reads behind the call as it read before'; 0 by the template 'total and deterministic' (their statements: YtgbdnclolgdojaaTotals.lean).
  GIVEN WITH THE SEED: the statements are not yours to turn. If you find one false, say at which input.
  Laid BY PROGRAM, IN A SANDBOX (cutbox-rows.mjs): the forced cells as the released guide's own fill.sh prints them over the translation 3a182f2f4b96de32… (all of the seat's roots in one cut). By AI agents, Wed Nov 11 2026. No macro, syntax, notation, axiom, sorry.
-/
import Derived.Test.YtgbdnclolgdojaaChecked
import GoSem.Claim
import GoSem.ClaimJoined
import GoSem.ClaimMapViews
import Derived.JoinedTies
import Derived.KernelRfl
namespace Go.Proofs.Ytgbdnclolgdojaa
/- THE CELL 'sum', in the pinned program and in every row, IS THE sha256 OF THE DUMP (.gsa) THAT YtgbdnclolgdojaaProg.lean LOADS. Nothing in Lean hashes anything: it is a label: what it is worth is what the hold of that sum in a sandbox is worth. -/
noncomputable def Try.pinned : Pinned := { name := "ytgbdnclolgdojaa", sum := "3a182f2f4b96de321da617b6afa0b06548448adb1f3eb6e564f5f6d0c3631e85", checked := Try.checked }
namespace Rows
def none {H : Type} : Left H := { results := [], args := [] }

/-- 'wigwaglaw04.LinkBrings': WHATEVER THE INPUT: true; the input reads as it did. -/
def linkBringsSpec : ChangeSpec := { name := "linkBrings", fn := fun _ => fun
  | [d1, d2] => { results := [.lit (.bool true)], args := [d1, d2] }
  | _ => none }
def linkBringsRow : OpenClaim := { program := "ytgbdnclolgdojaa", sum := "3a182f2f4b96de321da617b6afa0b06548448adb1f3eb6e564f5f6d0c3631e85", func := "wigwag/wigwaglaw04.LinkBrings", spec := "linkBrings", apart := false }
def LinkBringsSaid : Prop := linkBringsRow.holds Try.pinned (OpenSpec.ofChange linkBringsSpec)

/-- ITS FALSE NEIGHBOUR: 'it returns false'. Refute it at one input. -/
def linkBringsWrong : ChangeSpec := { name := "linkBrings", fn := fun _ => fun
  | [d1, d2] => { results := [.lit (.bool false)], args := [d1, d2] }
  | _ => none }
def LinkBringsWrongFalsely : Prop := linkBringsRow.holds Try.pinned (OpenSpec.ofChange linkBringsWrong)

/-- 'wigwaglaw04.LinkLate': WHATEVER THE INPUT: true; the input reads as it did. -/
def linkLateSpec : ChangeSpec := { name := "linkLate", fn := fun _ => fun
  | [d] => { results := [.lit (.bool true)], args := [d] }
  | _ => none }
def linkLateRow : OpenClaim := { program := "ytgbdnclolgdojaa", sum := "3a182f2f4b96de321da617b6afa0b06548448adb1f3eb6e564f5f6d0c3631e85", func := "wigwag/wigwaglaw04.LinkLate", spec := "linkLate", apart := false }
def LinkLateSaid : Prop := linkLateRow.holds Try.pinned (OpenSpec.ofChange linkLateSpec)

/-- ITS FALSE NEIGHBOUR: 'it returns false'. Refute it at one input. -/
def linkLateWrong : ChangeSpec := { name := "linkLate", fn := fun _ => fun
  | [d] => { results := [.lit (.bool false)], args := [d] }
  | _ => none }
def LinkLateWrongFalsely : Prop := linkLateRow.holds Try.pinned (OpenSpec.ofChange linkLateWrong)

/-- 'wigwagtop.WigwagCarried': WHATEVER THE INPUT: true; the input reads as it did. -/
def wigwagCarriedSpec : ChangeSpec := { name := "wigwagCarried", fn := fun _ => fun
  | [d] => { results := [.lit (.bool true)], args := [d] }
  | _ => none }
def wigwagCarriedRow : OpenClaim := { program := "ytgbdnclolgdojaa", sum := "3a182f2f4b96de321da617b6afa0b06548448adb1f3eb6e564f5f6d0c3631e85", func := "wigwag/wigwagtop.WigwagCarried", spec := "wigwagCarried", unfollowed := true, recurses := true, apart := false }
def WigwagCarriedSaid : Prop := wigwagCarriedRow.holds Try.pinned (OpenSpec.ofChange wigwagCarriedSpec)

/-- ITS FALSE NEIGHBOUR: 'it returns false'. Refute it at one input. -/
def wigwagCarriedWrong : ChangeSpec := { name := "wigwagCarried", fn := fun _ => fun
  | [d] => { results := [.lit (.bool false)], args := [d] }
  | _ => none }
def WigwagCarriedWrongFalsely : Prop := wigwagCarriedRow.holds Try.pinned (OpenSpec.ofChange wigwagCarriedWrong)

/- THE SECOND FORM. 'bulk': how many values and letters a reading holds, each counted each time it is reached (what is shared counts as often as it is met; a slice's spare places count too). A statement '..UptoSaid' is the law's where the arguments, and the package variables that the reading takes, are together of bulk at most 1048576: NARROWER than '..Said'. Prove '..Said' where nothing that the law and all that it calls make is longer than what came in: it says more and counts as full. Else prove '..UptoSaid'. A law counts once. -/
mutual
def uptoBulk {H : Type} : DataW H → Nat
  | .lit (.string bytes) => bytes.length + 1
  | .lit _ => 1
  | .nil => 1
  | .ptr d => uptoBulk d + 1
  | .slice elems spare => uptoBulkAll elems + uptoBulkAll spare + 1
  | .agg parts => uptoBulkAll parts + 1
  | .iface _ d => uptoBulk d + 1
  | .map entries => uptoBulkEntries entries + 1
  | .held _ => 1
def uptoBulkAll {H : Type} : List (DataW H) → Nat
  | [] => 0
  | d :: r => uptoBulk d + uptoBulkAll r
def uptoBulkEntries {H : Type} : List (Lit × DataW H) → Nat
  | [] => 0
  | x :: r => uptoBulkEntry x + uptoBulkEntries r
def uptoBulkEntry {H : Type} : Lit × DataW H → Nat
  | (.string bytes, d) => bytes.length + uptoBulk d + 1
  | (_, d) => uptoBulk d + 1
 end
def uptoSmall : (H : Type) → List (DataW H) → Bool := fun _ ds => decide (uptoBulkAll ds ≤ 1048576)
def OpenSpec.upto (s : _root_.Go.ChangeSpec) : _root_.Go.OpenSpec := { _root_.Go.OpenSpec.ofChange s with cond := some uptoSmall }

/-- 'wigwaglaw04.LinkBrings', WHERE WHAT IT READS IS OF BULK AT MOST 1048576: true; the input reads as it did. -/
def linkBringsUptoRow : OpenClaim := { program := "ytgbdnclolgdojaa", sum := "3a182f2f4b96de321da617b6afa0b06548448adb1f3eb6e564f5f6d0c3631e85", func := "wigwag/wigwaglaw04.LinkBrings", spec := "linkBrings", apart := false, narrowed := true }
def LinkBringsUptoSaid : Prop := linkBringsUptoRow.holds Try.pinned (OpenSpec.upto linkBringsSpec)

/-- 'wigwaglaw04.LinkLate', WHERE WHAT IT READS IS OF BULK AT MOST 1048576: true; the input reads as it did. -/
def linkLateUptoRow : OpenClaim := { program := "ytgbdnclolgdojaa", sum := "3a182f2f4b96de321da617b6afa0b06548448adb1f3eb6e564f5f6d0c3631e85", func := "wigwag/wigwaglaw04.LinkLate", spec := "linkLate", apart := false, narrowed := true }
def LinkLateUptoSaid : Prop := linkLateUptoRow.holds Try.pinned (OpenSpec.upto linkLateSpec)

/-- 'wigwagtop.WigwagCarried', WHERE WHAT IT READS IS OF BULK AT MOST 1048576: true; the input reads as it did. -/
def wigwagCarriedUptoRow : OpenClaim := { program := "ytgbdnclolgdojaa", sum := "3a182f2f4b96de321da617b6afa0b06548448adb1f3eb6e564f5f6d0c3631e85", func := "wigwag/wigwagtop.WigwagCarried", spec := "wigwagCarried", unfollowed := true, recurses := true, apart := false, narrowed := true }
def WigwagCarriedUptoSaid : Prop := wigwagCarriedUptoRow.holds Try.pinned (OpenSpec.upto wigwagCarriedSpec)

end Rows
end Go.Proofs.Ytgbdnclolgdojaa
