/-
  No cell of these rows narrows 'for every input' (looked for: loops, veiled, ifaces, maps, wideKeys, modest, calm, conditions, laid).
  DERIVED. THE GIVEN ROWS OF THIS SEAT. 12 by the template 'for every input the law returns true; each argument reads behind the call as it read before'; 0 by the template 'total and deterministic' (their statements: YtblfffbmklkhmaaGreatTotals.lean).
  GIVEN WITH THE SEED: the statements are not yours to turn. If you find one false, say at which input.
  Laid BY PROGRAM, IN A SANDBOX (cutbox-rows.mjs): the forced cells as the released guide's own fill.sh prints them over the translation a855b86ae6718769… (all of the seat's roots in one cut). By AI agents, Wed Nov 11 2026. No macro, syntax, notation, axiom, sorry.
-/
import Derived.Test.YtblfffbmklkhmaaGreatChecked
import GoSem.Claim
import GoSem.ClaimJoined
import GoSem.ClaimMapViews
import Derived.JoinedTies
import Derived.KernelRfl
namespace Go.Proofs.YtblfffbmklkhmaaGreat
/- THE CELL 'sum', in the pinned program and in every row, IS THE sha256 OF THE DUMP (.gsa) THAT YtblfffbmklkhmaaGreatProg.lean LOADS. Nothing in Lean hashes anything: it is a label: what it is worth is what the hold of that sum in a sandbox is worth. -/
noncomputable def Tryz.pinned : Pinned := { name := "ytblfffbmklkhmaagreat", sum := "a855b86ae67187691f5aad6274dea57db7109b3e77560a77919f90c1840006e6", checked := Tryz.checked }
namespace Rows
def none {H : Type} : Left H := { results := [], args := [] }

/-- 'stylelaw.Checks': WHATEVER THE INPUT: true; the input reads as it did. -/
def checksSpec : ChangeSpec := { name := "checks", fn := fun _ => fun
  | [d] => { results := [.lit (.bool true)], args := [d] }
  | _ => none }
def checksRow : OpenClaim := { program := "ytblfffbmklkhmaagreat", sum := "a855b86ae67187691f5aad6274dea57db7109b3e77560a77919f90c1840006e6", func := "style/stylelaw.Checks", spec := "checks", recurses := true, apart := false }
def ChecksSaid : Prop := checksRow.holds Tryz.pinned (OpenSpec.ofChange checksSpec)

/-- ITS FALSE NEIGHBOUR: 'it returns false'. Refute it at one input. -/
def checksWrong : ChangeSpec := { name := "checks", fn := fun _ => fun
  | [d] => { results := [.lit (.bool false)], args := [d] }
  | _ => none }
def ChecksWrongFalsely : Prop := checksRow.holds Tryz.pinned (OpenSpec.ofChange checksWrong)

/-- 'stylelaw.Weights': WHATEVER THE INPUT: true; the input reads as it did. -/
def weightsSpec : ChangeSpec := { name := "weights", fn := fun _ => fun
  | [d] => { results := [.lit (.bool true)], args := [d] }
  | _ => none }
def weightsRow : OpenClaim := { program := "ytblfffbmklkhmaagreat", sum := "a855b86ae67187691f5aad6274dea57db7109b3e77560a77919f90c1840006e6", func := "style/stylelaw.Weights", spec := "weights", recurses := true, apart := false }
def WeightsSaid : Prop := weightsRow.holds Tryz.pinned (OpenSpec.ofChange weightsSpec)

/-- ITS FALSE NEIGHBOUR: 'it returns false'. Refute it at one input. -/
def weightsWrong : ChangeSpec := { name := "weights", fn := fun _ => fun
  | [d] => { results := [.lit (.bool false)], args := [d] }
  | _ => none }
def WeightsWrongFalsely : Prop := weightsRow.holds Tryz.pinned (OpenSpec.ofChange weightsWrong)

/-- 'stylelaw.Trees': WHATEVER THE INPUT: true; the input reads as it did. -/
def treesSpec : ChangeSpec := { name := "trees", fn := fun _ => fun
  | [d] => { results := [.lit (.bool true)], args := [d] }
  | _ => none }
def treesRow : OpenClaim := { program := "ytblfffbmklkhmaagreat", sum := "a855b86ae67187691f5aad6274dea57db7109b3e77560a77919f90c1840006e6", func := "style/stylelaw.Trees", spec := "trees", recurses := true, apart := false }
def TreesSaid : Prop := treesRow.holds Tryz.pinned (OpenSpec.ofChange treesSpec)

/-- ITS FALSE NEIGHBOUR: 'it returns false'. Refute it at one input. -/
def treesWrong : ChangeSpec := { name := "trees", fn := fun _ => fun
  | [d] => { results := [.lit (.bool false)], args := [d] }
  | _ => none }
def TreesWrongFalsely : Prop := treesRow.holds Tryz.pinned (OpenSpec.ofChange treesWrong)

/-- 'stylelaw.Styles': WHATEVER THE INPUT: true; the input reads as it did. -/
def stylesSpec : ChangeSpec := { name := "styles", fn := fun _ => fun
  | [d] => { results := [.lit (.bool true)], args := [d] }
  | _ => none }
def stylesRow : OpenClaim := { program := "ytblfffbmklkhmaagreat", sum := "a855b86ae67187691f5aad6274dea57db7109b3e77560a77919f90c1840006e6", func := "style/stylelaw.Styles", spec := "styles", recurses := true, apart := false }
def StylesSaid : Prop := stylesRow.holds Tryz.pinned (OpenSpec.ofChange stylesSpec)

/-- ITS FALSE NEIGHBOUR: 'it returns false'. Refute it at one input. -/
def stylesWrong : ChangeSpec := { name := "styles", fn := fun _ => fun
  | [d] => { results := [.lit (.bool false)], args := [d] }
  | _ => none }
def StylesWrongFalsely : Prop := stylesRow.holds Tryz.pinned (OpenSpec.ofChange stylesWrong)

/-- 'stylekeep.Heirs': WHATEVER THE INPUT: true; the input reads as it did. -/
def heirsSpec : ChangeSpec := { name := "heirs", fn := fun _ => fun
  | [d1, d2] => { results := [.lit (.bool true)], args := [d1, d2] }
  | _ => none }
def heirsRow : OpenClaim := { program := "ytblfffbmklkhmaagreat", sum := "a855b86ae67187691f5aad6274dea57db7109b3e77560a77919f90c1840006e6", func := "style/stylekeep.Heirs", spec := "heirs", recurses := true, apart := false }
def HeirsSaid : Prop := heirsRow.holds Tryz.pinned (OpenSpec.ofChange heirsSpec)

/-- ITS FALSE NEIGHBOUR: 'it returns false'. Refute it at one input. -/
def heirsWrong : ChangeSpec := { name := "heirs", fn := fun _ => fun
  | [d1, d2] => { results := [.lit (.bool false)], args := [d1, d2] }
  | _ => none }
def HeirsWrongFalsely : Prop := heirsRow.holds Tryz.pinned (OpenSpec.ofChange heirsWrong)

/-- 'stylekeep.Pointed': WHATEVER THE INPUT: true; the input reads as it did. -/
def pointedSpec : ChangeSpec := { name := "pointed", fn := fun _ => fun
  | [d1, d2, d3] => { results := [.lit (.bool true)], args := [d1, d2, d3] }
  | _ => none }
def pointedRow : OpenClaim := { program := "ytblfffbmklkhmaagreat", sum := "a855b86ae67187691f5aad6274dea57db7109b3e77560a77919f90c1840006e6", func := "style/stylekeep.Pointed", spec := "pointed", recurses := true, apart := false }
def PointedSaid : Prop := pointedRow.holds Tryz.pinned (OpenSpec.ofChange pointedSpec)

/-- ITS FALSE NEIGHBOUR: 'it returns false'. Refute it at one input. -/
def pointedWrong : ChangeSpec := { name := "pointed", fn := fun _ => fun
  | [d1, d2, d3] => { results := [.lit (.bool false)], args := [d1, d2, d3] }
  | _ => none }
def PointedWrongFalsely : Prop := pointedRow.holds Tryz.pinned (OpenSpec.ofChange pointedWrong)

/-- 'stylekeep.Pressed': WHATEVER THE INPUT: true; the input reads as it did. -/
def pressedSpec : ChangeSpec := { name := "pressed", fn := fun _ => fun
  | [d1, d2, d3, d4] => { results := [.lit (.bool true)], args := [d1, d2, d3, d4] }
  | _ => none }
def pressedRow : OpenClaim := { program := "ytblfffbmklkhmaagreat", sum := "a855b86ae67187691f5aad6274dea57db7109b3e77560a77919f90c1840006e6", func := "style/stylekeep.Pressed", spec := "pressed", recurses := true, apart := false }
def PressedSaid : Prop := pressedRow.holds Tryz.pinned (OpenSpec.ofChange pressedSpec)

/-- ITS FALSE NEIGHBOUR: 'it returns false'. Refute it at one input. -/
def pressedWrong : ChangeSpec := { name := "pressed", fn := fun _ => fun
  | [d1, d2, d3, d4] => { results := [.lit (.bool false)], args := [d1, d2, d3, d4] }
  | _ => none }
def PressedWrongFalsely : Prop := pressedRow.holds Tryz.pinned (OpenSpec.ofChange pressedWrong)

/-- 'stylekeep.Renamed': WHATEVER THE INPUT: true; the input reads as it did. -/
def renamedSpec : ChangeSpec := { name := "renamed", fn := fun _ => fun
  | [d1, d2, d3] => { results := [.lit (.bool true)], args := [d1, d2, d3] }
  | _ => none }
def renamedRow : OpenClaim := { program := "ytblfffbmklkhmaagreat", sum := "a855b86ae67187691f5aad6274dea57db7109b3e77560a77919f90c1840006e6", func := "style/stylekeep.Renamed", spec := "renamed", recurses := true, apart := false }
def RenamedSaid : Prop := renamedRow.holds Tryz.pinned (OpenSpec.ofChange renamedSpec)

/-- ITS FALSE NEIGHBOUR: 'it returns false'. Refute it at one input. -/
def renamedWrong : ChangeSpec := { name := "renamed", fn := fun _ => fun
  | [d1, d2, d3] => { results := [.lit (.bool false)], args := [d1, d2, d3] }
  | _ => none }
def RenamedWrongFalsely : Prop := renamedRow.holds Tryz.pinned (OpenSpec.ofChange renamedWrong)

/-- 'stylekeep.Anew': WHATEVER THE INPUT: true; the input reads as it did. -/
def anewSpec : ChangeSpec := { name := "anew", fn := fun _ => fun
  | [d1, d2, d3, d4] => { results := [.lit (.bool true)], args := [d1, d2, d3, d4] }
  | _ => none }
def anewRow : OpenClaim := { program := "ytblfffbmklkhmaagreat", sum := "a855b86ae67187691f5aad6274dea57db7109b3e77560a77919f90c1840006e6", func := "style/stylekeep.Anew", spec := "anew", recurses := true, apart := false }
def AnewSaid : Prop := anewRow.holds Tryz.pinned (OpenSpec.ofChange anewSpec)

/-- ITS FALSE NEIGHBOUR: 'it returns false'. Refute it at one input. -/
def anewWrong : ChangeSpec := { name := "anew", fn := fun _ => fun
  | [d1, d2, d3, d4] => { results := [.lit (.bool false)], args := [d1, d2, d3, d4] }
  | _ => none }
def AnewWrongFalsely : Prop := anewRow.holds Tryz.pinned (OpenSpec.ofChange anewWrong)

/-- 'stylelaw.Pieces': WHATEVER THE INPUT: true; the input reads as it did. -/
def piecesSpec : ChangeSpec := { name := "pieces", fn := fun _ => fun
  | [d] => { results := [.lit (.bool true)], args := [d] }
  | _ => none }
def piecesRow : OpenClaim := { program := "ytblfffbmklkhmaagreat", sum := "a855b86ae67187691f5aad6274dea57db7109b3e77560a77919f90c1840006e6", func := "style/stylelaw.Pieces", spec := "pieces", recurses := true, apart := false }
def PiecesSaid : Prop := piecesRow.holds Tryz.pinned (OpenSpec.ofChange piecesSpec)

/-- ITS FALSE NEIGHBOUR: 'it returns false'. Refute it at one input. -/
def piecesWrong : ChangeSpec := { name := "pieces", fn := fun _ => fun
  | [d] => { results := [.lit (.bool false)], args := [d] }
  | _ => none }
def PiecesWrongFalsely : Prop := piecesRow.holds Tryz.pinned (OpenSpec.ofChange piecesWrong)

/-- 'stylekeep.Lazy': WHATEVER THE INPUT: true; the input reads as it did. -/
def lazySpec : ChangeSpec := { name := "lazy", fn := fun _ => fun
  | [d1, d2] => { results := [.lit (.bool true)], args := [d1, d2] }
  | _ => none }
def lazyRow : OpenClaim := { program := "ytblfffbmklkhmaagreat", sum := "a855b86ae67187691f5aad6274dea57db7109b3e77560a77919f90c1840006e6", func := "style/stylekeep.Lazy", spec := "lazy", recurses := true, apart := false }
def LazySaid : Prop := lazyRow.holds Tryz.pinned (OpenSpec.ofChange lazySpec)

/-- ITS FALSE NEIGHBOUR: 'it returns false'. Refute it at one input. -/
def lazyWrong : ChangeSpec := { name := "lazy", fn := fun _ => fun
  | [d1, d2] => { results := [.lit (.bool false)], args := [d1, d2] }
  | _ => none }
def LazyWrongFalsely : Prop := lazyRow.holds Tryz.pinned (OpenSpec.ofChange lazyWrong)

/-- 'stylekeep.Finished': WHATEVER THE INPUT: true; the input reads as it did. -/
def finishedSpec : ChangeSpec := { name := "finished", fn := fun _ => fun
  | [d1, d2, d3] => { results := [.lit (.bool true)], args := [d1, d2, d3] }
  | _ => none }
def finishedRow : OpenClaim := { program := "ytblfffbmklkhmaagreat", sum := "a855b86ae67187691f5aad6274dea57db7109b3e77560a77919f90c1840006e6", func := "style/stylekeep.Finished", spec := "finished", recurses := true, apart := false }
def FinishedSaid : Prop := finishedRow.holds Tryz.pinned (OpenSpec.ofChange finishedSpec)

/-- ITS FALSE NEIGHBOUR: 'it returns false'. Refute it at one input. -/
def finishedWrong : ChangeSpec := { name := "finished", fn := fun _ => fun
  | [d1, d2, d3] => { results := [.lit (.bool false)], args := [d1, d2, d3] }
  | _ => none }
def FinishedWrongFalsely : Prop := finishedRow.holds Tryz.pinned (OpenSpec.ofChange finishedWrong)

/- THE SECOND FORM. 'bulk': how many values and letters a reading holds, each counted each time it is reached (what is shared counts as often as it is met; a slice's spare places count too). A statement '..UptoSaid' is the law's where the arguments, and the package variables that the reading takes, are together of bulk at most 1048576: NARROWER than '..Said'. Prove '..Said' where nothing that the law and all that it calls make is longer than what came in: it says more and counts as full. Else prove '..UptoSaid'. A law counts once. -/
mutual
def uptoBulk {H : Type} : DataW H → Nat
  | .lit (.string bytes) => bytes.length + 1
  | .lit _ => 1
  | .nil => 1
  | .ptr d => uptoBulk d + 1
  | .slice elems spare => uptoBulkAll elems + uptoBulkAll spare + 1
  | .agg parts => uptoBulkAll parts + 1
  | .iface _ d => uptoBulk d + 1
  | .map entries => uptoBulkEntries entries + 1
  | .held _ => 1
def uptoBulkAll {H : Type} : List (DataW H) → Nat
  | [] => 0
  | d :: r => uptoBulk d + uptoBulkAll r
def uptoBulkEntries {H : Type} : List (Lit × DataW H) → Nat
  | [] => 0
  | x :: r => uptoBulkEntry x + uptoBulkEntries r
def uptoBulkEntry {H : Type} : Lit × DataW H → Nat
  | (.string bytes, d) => bytes.length + uptoBulk d + 1
  | (_, d) => uptoBulk d + 1
 end
def uptoSmall : (H : Type) → List (DataW H) → Bool := fun _ ds => decide (uptoBulkAll ds ≤ 1048576)
def OpenSpec.upto (s : _root_.Go.ChangeSpec) : _root_.Go.OpenSpec := { _root_.Go.OpenSpec.ofChange s with cond := some uptoSmall }

/-- 'stylelaw.Checks', WHERE WHAT IT READS IS OF BULK AT MOST 1048576: true; the input reads as it did. -/
def checksUptoRow : OpenClaim := { program := "ytblfffbmklkhmaagreat", sum := "a855b86ae67187691f5aad6274dea57db7109b3e77560a77919f90c1840006e6", func := "style/stylelaw.Checks", spec := "checks", recurses := true, apart := false, narrowed := true }
def ChecksUptoSaid : Prop := checksUptoRow.holds Tryz.pinned (OpenSpec.upto checksSpec)

/-- 'stylelaw.Weights', WHERE WHAT IT READS IS OF BULK AT MOST 1048576: true; the input reads as it did. -/
def weightsUptoRow : OpenClaim := { program := "ytblfffbmklkhmaagreat", sum := "a855b86ae67187691f5aad6274dea57db7109b3e77560a77919f90c1840006e6", func := "style/stylelaw.Weights", spec := "weights", recurses := true, apart := false, narrowed := true }
def WeightsUptoSaid : Prop := weightsUptoRow.holds Tryz.pinned (OpenSpec.upto weightsSpec)

/-- 'stylelaw.Trees', WHERE WHAT IT READS IS OF BULK AT MOST 1048576: true; the input reads as it did. -/
def treesUptoRow : OpenClaim := { program := "ytblfffbmklkhmaagreat", sum := "a855b86ae67187691f5aad6274dea57db7109b3e77560a77919f90c1840006e6", func := "style/stylelaw.Trees", spec := "trees", recurses := true, apart := false, narrowed := true }
def TreesUptoSaid : Prop := treesUptoRow.holds Tryz.pinned (OpenSpec.upto treesSpec)

/-- 'stylelaw.Styles', WHERE WHAT IT READS IS OF BULK AT MOST 1048576: true; the input reads as it did. -/
def stylesUptoRow : OpenClaim := { program := "ytblfffbmklkhmaagreat", sum := "a855b86ae67187691f5aad6274dea57db7109b3e77560a77919f90c1840006e6", func := "style/stylelaw.Styles", spec := "styles", recurses := true, apart := false, narrowed := true }
def StylesUptoSaid : Prop := stylesUptoRow.holds Tryz.pinned (OpenSpec.upto stylesSpec)

/-- 'stylekeep.Heirs', WHERE WHAT IT READS IS OF BULK AT MOST 1048576: true; the input reads as it did. -/
def heirsUptoRow : OpenClaim := { program := "ytblfffbmklkhmaagreat", sum := "a855b86ae67187691f5aad6274dea57db7109b3e77560a77919f90c1840006e6", func := "style/stylekeep.Heirs", spec := "heirs", recurses := true, apart := false, narrowed := true }
def HeirsUptoSaid : Prop := heirsUptoRow.holds Tryz.pinned (OpenSpec.upto heirsSpec)

/-- 'stylekeep.Pointed', WHERE WHAT IT READS IS OF BULK AT MOST 1048576: true; the input reads as it did. -/
def pointedUptoRow : OpenClaim := { program := "ytblfffbmklkhmaagreat", sum := "a855b86ae67187691f5aad6274dea57db7109b3e77560a77919f90c1840006e6", func := "style/stylekeep.Pointed", spec := "pointed", recurses := true, apart := false, narrowed := true }
def PointedUptoSaid : Prop := pointedUptoRow.holds Tryz.pinned (OpenSpec.upto pointedSpec)

/-- 'stylekeep.Pressed', WHERE WHAT IT READS IS OF BULK AT MOST 1048576: true; the input reads as it did. -/
def pressedUptoRow : OpenClaim := { program := "ytblfffbmklkhmaagreat", sum := "a855b86ae67187691f5aad6274dea57db7109b3e77560a77919f90c1840006e6", func := "style/stylekeep.Pressed", spec := "pressed", recurses := true, apart := false, narrowed := true }
def PressedUptoSaid : Prop := pressedUptoRow.holds Tryz.pinned (OpenSpec.upto pressedSpec)

/-- 'stylekeep.Renamed', WHERE WHAT IT READS IS OF BULK AT MOST 1048576: true; the input reads as it did. -/
def renamedUptoRow : OpenClaim := { program := "ytblfffbmklkhmaagreat", sum := "a855b86ae67187691f5aad6274dea57db7109b3e77560a77919f90c1840006e6", func := "style/stylekeep.Renamed", spec := "renamed", recurses := true, apart := false, narrowed := true }
def RenamedUptoSaid : Prop := renamedUptoRow.holds Tryz.pinned (OpenSpec.upto renamedSpec)

/-- 'stylekeep.Anew', WHERE WHAT IT READS IS OF BULK AT MOST 1048576: true; the input reads as it did. -/
def anewUptoRow : OpenClaim := { program := "ytblfffbmklkhmaagreat", sum := "a855b86ae67187691f5aad6274dea57db7109b3e77560a77919f90c1840006e6", func := "style/stylekeep.Anew", spec := "anew", recurses := true, apart := false, narrowed := true }
def AnewUptoSaid : Prop := anewUptoRow.holds Tryz.pinned (OpenSpec.upto anewSpec)

/-- 'stylelaw.Pieces', WHERE WHAT IT READS IS OF BULK AT MOST 1048576: true; the input reads as it did. -/
def piecesUptoRow : OpenClaim := { program := "ytblfffbmklkhmaagreat", sum := "a855b86ae67187691f5aad6274dea57db7109b3e77560a77919f90c1840006e6", func := "style/stylelaw.Pieces", spec := "pieces", recurses := true, apart := false, narrowed := true }
def PiecesUptoSaid : Prop := piecesUptoRow.holds Tryz.pinned (OpenSpec.upto piecesSpec)

/-- 'stylekeep.Lazy', WHERE WHAT IT READS IS OF BULK AT MOST 1048576: true; the input reads as it did. -/
def lazyUptoRow : OpenClaim := { program := "ytblfffbmklkhmaagreat", sum := "a855b86ae67187691f5aad6274dea57db7109b3e77560a77919f90c1840006e6", func := "style/stylekeep.Lazy", spec := "lazy", recurses := true, apart := false, narrowed := true }
def LazyUptoSaid : Prop := lazyUptoRow.holds Tryz.pinned (OpenSpec.upto lazySpec)

/-- 'stylekeep.Finished', WHERE WHAT IT READS IS OF BULK AT MOST 1048576: true; the input reads as it did. -/
def finishedUptoRow : OpenClaim := { program := "ytblfffbmklkhmaagreat", sum := "a855b86ae67187691f5aad6274dea57db7109b3e77560a77919f90c1840006e6", func := "style/stylekeep.Finished", spec := "finished", recurses := true, apart := false, narrowed := true }
def FinishedUptoSaid : Prop := finishedUptoRow.holds Tryz.pinned (OpenSpec.upto finishedSpec)

end Rows
end Go.Proofs.YtblfffbmklkhmaaGreat
