/-
  No cell of these rows narrows 'for every input' (looked for: loops, veiled, ifaces, maps, wideKeys, modest, calm, conditions, laid).
  DERIVED. THE GIVEN ROWS OF THIS SEAT. 4 by the template 'for every input the law returns true; each argument reads behind the call as it read before'; 0 by the template 'total and deterministic' (their statements: YthniahbbnknkoaaTotals.lean).
  GIVEN WITH THE SEED: the statements are not yours to turn. If you find one false, say at which input.
  Laid BY PROGRAM, IN A SANDBOX (cutbox-rows.mjs): the forced cells as the released guide's own fill.sh prints them over the translation 596dece073fedbfe… (all of the seat's roots in one cut). By AI agents, Wed Nov 11 2026. No macro, syntax, notation, axiom, sorry.
-/
import Derived.Test.YthniahbbnknkoaaChecked
import GoSem.Claim
import GoSem.ClaimJoined
import GoSem.ClaimMapViews
import Derived.JoinedTies
import Derived.KernelRfl
namespace Go.Proofs.Ythniahbbnknkoaa
/- THE CELL 'sum', in the pinned program and in every row, IS THE sha256 OF THE DUMP (.gsa) THAT YthniahbbnknkoaaProg.lean LOADS. Nothing in Lean hashes anything: it is a label: what it is worth is what the hold of that sum in a sandbox is worth. -/
noncomputable def Try.pinned : Pinned := { name := "ythniahbbnknkoaa", sum := "596dece073fedbfe783569a5f50d1b9e912d645227e4735fdd28f14e94cba02f", checked := Try.checked }
namespace Rows
def none {H : Type} : Left H := { results := [], args := [] }

/-- 'wigwaglaw09.PeerCloser': WHATEVER THE INPUT: true; the input reads as it did. -/
def peerCloserSpec : ChangeSpec := { name := "peerCloser", fn := fun _ => fun
  | [d1, d2, d3] => { results := [.lit (.bool true)], args := [d1, d2, d3] }
  | _ => none }
def peerCloserRow : OpenClaim := { program := "ythniahbbnknkoaa", sum := "596dece073fedbfe783569a5f50d1b9e912d645227e4735fdd28f14e94cba02f", func := "wigwag/wigwaglaw09.PeerCloser", spec := "peerCloser", unfollowed := true, recurses := true, apart := false }
def PeerCloserSaid : Prop := peerCloserRow.holds Try.pinned (OpenSpec.ofChange peerCloserSpec)

/-- ITS FALSE NEIGHBOUR: 'it returns false'. Refute it at one input. -/
def peerCloserWrong : ChangeSpec := { name := "peerCloser", fn := fun _ => fun
  | [d1, d2, d3] => { results := [.lit (.bool false)], args := [d1, d2, d3] }
  | _ => none }
def PeerCloserWrongFalsely : Prop := peerCloserRow.holds Try.pinned (OpenSpec.ofChange peerCloserWrong)

/-- 'wigwaglaw09.PeerList': WHATEVER THE INPUT: true; the input reads as it did. -/
def peerListSpec : ChangeSpec := { name := "peerList", fn := fun _ => fun
  | [d1, d2, d3] => { results := [.lit (.bool true)], args := [d1, d2, d3] }
  | _ => none }
def peerListRow : OpenClaim := { program := "ythniahbbnknkoaa", sum := "596dece073fedbfe783569a5f50d1b9e912d645227e4735fdd28f14e94cba02f", func := "wigwag/wigwaglaw09.PeerList", spec := "peerList", unfollowed := true, recurses := true, apart := false }
def PeerListSaid : Prop := peerListRow.holds Try.pinned (OpenSpec.ofChange peerListSpec)

/-- ITS FALSE NEIGHBOUR: 'it returns false'. Refute it at one input. -/
def peerListWrong : ChangeSpec := { name := "peerList", fn := fun _ => fun
  | [d1, d2, d3] => { results := [.lit (.bool false)], args := [d1, d2, d3] }
  | _ => none }
def PeerListWrongFalsely : Prop := peerListRow.holds Try.pinned (OpenSpec.ofChange peerListWrong)

/-- 'wigwaglaw09.PeerTold': WHATEVER THE INPUT: true; the input reads as it did. -/
def peerToldSpec : ChangeSpec := { name := "peerTold", fn := fun _ => fun
  | [d1, d2, d3] => { results := [.lit (.bool true)], args := [d1, d2, d3] }
  | _ => none }
def peerToldRow : OpenClaim := { program := "ythniahbbnknkoaa", sum := "596dece073fedbfe783569a5f50d1b9e912d645227e4735fdd28f14e94cba02f", func := "wigwag/wigwaglaw09.PeerTold", spec := "peerTold", unfollowed := true, recurses := true, apart := false }
def PeerToldSaid : Prop := peerToldRow.holds Try.pinned (OpenSpec.ofChange peerToldSpec)

/-- ITS FALSE NEIGHBOUR: 'it returns false'. Refute it at one input. -/
def peerToldWrong : ChangeSpec := { name := "peerTold", fn := fun _ => fun
  | [d1, d2, d3] => { results := [.lit (.bool false)], args := [d1, d2, d3] }
  | _ => none }
def PeerToldWrongFalsely : Prop := peerToldRow.holds Try.pinned (OpenSpec.ofChange peerToldWrong)

/-- 'wigwaglaw09.PeerHeads': WHATEVER THE INPUT: true; the input reads as it did. -/
def peerHeadsSpec : ChangeSpec := { name := "peerHeads", fn := fun _ => fun
  | [d1, d2] => { results := [.lit (.bool true)], args := [d1, d2] }
  | _ => none }
def peerHeadsRow : OpenClaim := { program := "ythniahbbnknkoaa", sum := "596dece073fedbfe783569a5f50d1b9e912d645227e4735fdd28f14e94cba02f", func := "wigwag/wigwaglaw09.PeerHeads", spec := "peerHeads", unfollowed := true, recurses := true, apart := false }
def PeerHeadsSaid : Prop := peerHeadsRow.holds Try.pinned (OpenSpec.ofChange peerHeadsSpec)

/-- ITS FALSE NEIGHBOUR: 'it returns false'. Refute it at one input. -/
def peerHeadsWrong : ChangeSpec := { name := "peerHeads", fn := fun _ => fun
  | [d1, d2] => { results := [.lit (.bool false)], args := [d1, d2] }
  | _ => none }
def PeerHeadsWrongFalsely : Prop := peerHeadsRow.holds Try.pinned (OpenSpec.ofChange peerHeadsWrong)

/- THE SECOND FORM. 'bulk': how many values and letters a reading holds, each counted each time it is reached (what is shared counts as often as it is met; a slice's spare places count too). A statement '..UptoSaid' is the law's where the arguments, and the package variables that the reading takes, are together of bulk at most 1048576: NARROWER than '..Said'. Prove '..Said' where nothing that the law and all that it calls make is longer than what came in: it says more and counts as full. Else prove '..UptoSaid'. A law counts once. -/
mutual
def uptoBulk {H : Type} : DataW H → Nat
  | .lit (.string bytes) => bytes.length + 1
  | .lit _ => 1
  | .nil => 1
  | .ptr d => uptoBulk d + 1
  | .slice elems spare => uptoBulkAll elems + uptoBulkAll spare + 1
  | .agg parts => uptoBulkAll parts + 1
  | .iface _ d => uptoBulk d + 1
  | .map entries => uptoBulkEntries entries + 1
  | .held _ => 1
def uptoBulkAll {H : Type} : List (DataW H) → Nat
  | [] => 0
  | d :: r => uptoBulk d + uptoBulkAll r
def uptoBulkEntries {H : Type} : List (Lit × DataW H) → Nat
  | [] => 0
  | x :: r => uptoBulkEntry x + uptoBulkEntries r
def uptoBulkEntry {H : Type} : Lit × DataW H → Nat
  | (.string bytes, d) => bytes.length + uptoBulk d + 1
  | (_, d) => uptoBulk d + 1
 end
def uptoSmall : (H : Type) → List (DataW H) → Bool := fun _ ds => decide (uptoBulkAll ds ≤ 1048576)
def OpenSpec.upto (s : _root_.Go.ChangeSpec) : _root_.Go.OpenSpec := { _root_.Go.OpenSpec.ofChange s with cond := some uptoSmall }

/-- 'wigwaglaw09.PeerCloser', WHERE WHAT IT READS IS OF BULK AT MOST 1048576: true; the input reads as it did. -/
def peerCloserUptoRow : OpenClaim := { program := "ythniahbbnknkoaa", sum := "596dece073fedbfe783569a5f50d1b9e912d645227e4735fdd28f14e94cba02f", func := "wigwag/wigwaglaw09.PeerCloser", spec := "peerCloser", unfollowed := true, recurses := true, apart := false, narrowed := true }
def PeerCloserUptoSaid : Prop := peerCloserUptoRow.holds Try.pinned (OpenSpec.upto peerCloserSpec)

/-- 'wigwaglaw09.PeerList', WHERE WHAT IT READS IS OF BULK AT MOST 1048576: true; the input reads as it did. -/
def peerListUptoRow : OpenClaim := { program := "ythniahbbnknkoaa", sum := "596dece073fedbfe783569a5f50d1b9e912d645227e4735fdd28f14e94cba02f", func := "wigwag/wigwaglaw09.PeerList", spec := "peerList", unfollowed := true, recurses := true, apart := false, narrowed := true }
def PeerListUptoSaid : Prop := peerListUptoRow.holds Try.pinned (OpenSpec.upto peerListSpec)

/-- 'wigwaglaw09.PeerTold', WHERE WHAT IT READS IS OF BULK AT MOST 1048576: true; the input reads as it did. -/
def peerToldUptoRow : OpenClaim := { program := "ythniahbbnknkoaa", sum := "596dece073fedbfe783569a5f50d1b9e912d645227e4735fdd28f14e94cba02f", func := "wigwag/wigwaglaw09.PeerTold", spec := "peerTold", unfollowed := true, recurses := true, apart := false, narrowed := true }
def PeerToldUptoSaid : Prop := peerToldUptoRow.holds Try.pinned (OpenSpec.upto peerToldSpec)

/-- 'wigwaglaw09.PeerHeads', WHERE WHAT IT READS IS OF BULK AT MOST 1048576: true; the input reads as it did. -/
def peerHeadsUptoRow : OpenClaim := { program := "ythniahbbnknkoaa", sum := "596dece073fedbfe783569a5f50d1b9e912d645227e4735fdd28f14e94cba02f", func := "wigwag/wigwaglaw09.PeerHeads", spec := "peerHeads", unfollowed := true, recurses := true, apart := false, narrowed := true }
def PeerHeadsUptoSaid : Prop := peerHeadsUptoRow.holds Try.pinned (OpenSpec.upto peerHeadsSpec)

end Rows
end Go.Proofs.Ythniahbbnknkoaa
