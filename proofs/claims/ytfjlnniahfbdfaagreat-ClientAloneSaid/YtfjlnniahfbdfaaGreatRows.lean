/-
  No cell of these rows narrows 'for every input' (looked for: loops, veiled, ifaces, maps, wideKeys, modest, calm, conditions, laid).
  DERIVED. THE GIVEN ROWS OF THIS SEAT. 3 by the template 'for every input the law returns true; each argument reads behind the call as it read before'; 0 by the template 'total and deterministic' (their statements: YtfjlnniahfbdfaaGreatTotals.lean).
  GIVEN WITH THE SEED: the statements are not yours to turn. If you find one false, say at which input.
  Laid BY PROGRAM, IN A SANDBOX (cutbox-rows.mjs): the forced cells as the released guide's own fill.sh prints them over the translation 9ef06949548bca9b… (all of the seat's roots in one cut). By AI agents, Wed Nov 11 2026. No macro, syntax, notation, axiom, sorry.
-/
import Derived.Test.YtfjlnniahfbdfaaGreatChecked
import GoSem.Claim
import GoSem.ClaimJoined
import GoSem.ClaimMapViews
import Derived.JoinedTies
import Derived.KernelRfl
namespace Go.Proofs.YtfjlnniahfbdfaaGreat
/- THE CELL 'sum', in the pinned program and in every row, IS THE sha256 OF THE DUMP (.gsa) THAT YtfjlnniahfbdfaaGreatProg.lean LOADS. Nothing in Lean hashes anything: it is a label: what it is worth is what the hold of that sum in a sandbox is worth. -/
noncomputable def Tryz.pinned : Pinned := { name := "ytfjlnniahfbdfaagreat", sum := "9ef06949548bca9bfb4941e47cc0da73c7d8c43cebb6d447462f9e2ab862d578", checked := Tryz.checked }
namespace Rows
def none {H : Type} : Left H := { results := [], args := [] }

/-- 'easellaw17.ClientAlone': WHATEVER THE INPUT: true; the input reads as it did. -/
def clientAloneSpec : ChangeSpec := { name := "clientAlone", fn := fun _ => fun
  | [d1, d2] => { results := [.lit (.bool true)], args := [d1, d2] }
  | _ => none }
def clientAloneRow : OpenClaim := { program := "ytfjlnniahfbdfaagreat", sum := "9ef06949548bca9bfb4941e47cc0da73c7d8c43cebb6d447462f9e2ab862d578", func := "easel/easellaw17.ClientAlone", spec := "clientAlone", inPlace := ["internal/reflectlite.TypeOf", "slices.overlaps[easel/api.Pane]"], unfollowed := true, recurses := true, plainKeys := false, apart := false }
def ClientAloneSaid : Prop := clientAloneRow.holds Tryz.pinned (OpenSpec.ofChange clientAloneSpec)

/-- ITS FALSE NEIGHBOUR: 'it returns false'. Refute it at one input. -/
def clientAloneWrong : ChangeSpec := { name := "clientAlone", fn := fun _ => fun
  | [d1, d2] => { results := [.lit (.bool false)], args := [d1, d2] }
  | _ => none }
def ClientAloneWrongFalsely : Prop := clientAloneRow.holds Tryz.pinned (OpenSpec.ofChange clientAloneWrong)

/-- 'easellaw18.OperAlone': WHATEVER THE INPUT: true; the input reads as it did. -/
def operAloneSpec : ChangeSpec := { name := "operAlone", fn := fun _ => fun
  | [d1, d2, d3, d4] => { results := [.lit (.bool true)], args := [d1, d2, d3, d4] }
  | _ => none }
def operAloneRow : OpenClaim := { program := "ytfjlnniahfbdfaagreat", sum := "9ef06949548bca9bfb4941e47cc0da73c7d8c43cebb6d447462f9e2ab862d578", func := "easel/easellaw18.OperAlone", spec := "operAlone", inPlace := ["slices.overlaps[easel/api.Pane]", "internal/reflectlite.TypeOf"], unfollowed := true, recurses := true, plainKeys := false, apart := false }
def OperAloneSaid : Prop := operAloneRow.holds Tryz.pinned (OpenSpec.ofChange operAloneSpec)

/-- ITS FALSE NEIGHBOUR: 'it returns false'. Refute it at one input. -/
def operAloneWrong : ChangeSpec := { name := "operAlone", fn := fun _ => fun
  | [d1, d2, d3, d4] => { results := [.lit (.bool false)], args := [d1, d2, d3, d4] }
  | _ => none }
def OperAloneWrongFalsely : Prop := operAloneRow.holds Tryz.pinned (OpenSpec.ofChange operAloneWrong)

/-- 'easellaw18.OperRoom': WHATEVER THE INPUT: true; the input reads as it did. -/
def operRoomSpec : ChangeSpec := { name := "operRoom", fn := fun _ => fun
  | [d1, d2, d3] => { results := [.lit (.bool true)], args := [d1, d2, d3] }
  | _ => none }
def operRoomRow : OpenClaim := { program := "ytfjlnniahfbdfaagreat", sum := "9ef06949548bca9bfb4941e47cc0da73c7d8c43cebb6d447462f9e2ab862d578", func := "easel/easellaw18.OperRoom", spec := "operRoom", inPlace := ["slices.overlaps[easel/api.Pane]", "internal/reflectlite.TypeOf"], unfollowed := true, recurses := true, plainKeys := false, apart := false }
def OperRoomSaid : Prop := operRoomRow.holds Tryz.pinned (OpenSpec.ofChange operRoomSpec)

/-- ITS FALSE NEIGHBOUR: 'it returns false'. Refute it at one input. -/
def operRoomWrong : ChangeSpec := { name := "operRoom", fn := fun _ => fun
  | [d1, d2, d3] => { results := [.lit (.bool false)], args := [d1, d2, d3] }
  | _ => none }
def OperRoomWrongFalsely : Prop := operRoomRow.holds Tryz.pinned (OpenSpec.ofChange operRoomWrong)

/- THE SECOND FORM. 'bulk': how many values and letters a reading holds, each counted each time it is reached (what is shared counts as often as it is met; a slice's spare places count too). A statement '..UptoSaid' is the law's where the arguments, and the package variables that the reading takes, are together of bulk at most 1048576: NARROWER than '..Said'. Prove '..Said' where nothing that the law and all that it calls make is longer than what came in: it says more and counts as full. Else prove '..UptoSaid'. A law counts once. -/
mutual
def uptoBulk {H : Type} : DataW H → Nat
  | .lit (.string bytes) => bytes.length + 1
  | .lit _ => 1
  | .nil => 1
  | .ptr d => uptoBulk d + 1
  | .slice elems spare => uptoBulkAll elems + uptoBulkAll spare + 1
  | .agg parts => uptoBulkAll parts + 1
  | .iface _ d => uptoBulk d + 1
  | .map entries => uptoBulkEntries entries + 1
  | .held _ => 1
def uptoBulkAll {H : Type} : List (DataW H) → Nat
  | [] => 0
  | d :: r => uptoBulk d + uptoBulkAll r
def uptoBulkEntries {H : Type} : List (Lit × DataW H) → Nat
  | [] => 0
  | x :: r => uptoBulkEntry x + uptoBulkEntries r
def uptoBulkEntry {H : Type} : Lit × DataW H → Nat
  | (.string bytes, d) => bytes.length + uptoBulk d + 1
  | (_, d) => uptoBulk d + 1
 end
def uptoSmall : (H : Type) → List (DataW H) → Bool := fun _ ds => decide (uptoBulkAll ds ≤ 1048576)
def OpenSpec.upto (s : _root_.Go.ChangeSpec) : _root_.Go.OpenSpec := { _root_.Go.OpenSpec.ofChange s with cond := some uptoSmall }

/-- 'easellaw17.ClientAlone', WHERE WHAT IT READS IS OF BULK AT MOST 1048576: true; the input reads as it did. -/
def clientAloneUptoRow : OpenClaim := { program := "ytfjlnniahfbdfaagreat", sum := "9ef06949548bca9bfb4941e47cc0da73c7d8c43cebb6d447462f9e2ab862d578", func := "easel/easellaw17.ClientAlone", spec := "clientAlone", inPlace := ["internal/reflectlite.TypeOf", "slices.overlaps[easel/api.Pane]"], unfollowed := true, recurses := true, plainKeys := false, apart := false, narrowed := true }
def ClientAloneUptoSaid : Prop := clientAloneUptoRow.holds Tryz.pinned (OpenSpec.upto clientAloneSpec)

/-- 'easellaw18.OperAlone', WHERE WHAT IT READS IS OF BULK AT MOST 1048576: true; the input reads as it did. -/
def operAloneUptoRow : OpenClaim := { program := "ytfjlnniahfbdfaagreat", sum := "9ef06949548bca9bfb4941e47cc0da73c7d8c43cebb6d447462f9e2ab862d578", func := "easel/easellaw18.OperAlone", spec := "operAlone", inPlace := ["slices.overlaps[easel/api.Pane]", "internal/reflectlite.TypeOf"], unfollowed := true, recurses := true, plainKeys := false, apart := false, narrowed := true }
def OperAloneUptoSaid : Prop := operAloneUptoRow.holds Tryz.pinned (OpenSpec.upto operAloneSpec)

/-- 'easellaw18.OperRoom', WHERE WHAT IT READS IS OF BULK AT MOST 1048576: true; the input reads as it did. -/
def operRoomUptoRow : OpenClaim := { program := "ytfjlnniahfbdfaagreat", sum := "9ef06949548bca9bfb4941e47cc0da73c7d8c43cebb6d447462f9e2ab862d578", func := "easel/easellaw18.OperRoom", spec := "operRoom", inPlace := ["slices.overlaps[easel/api.Pane]", "internal/reflectlite.TypeOf"], unfollowed := true, recurses := true, plainKeys := false, apart := false, narrowed := true }
def OperRoomUptoSaid : Prop := operRoomUptoRow.holds Tryz.pinned (OpenSpec.upto operRoomSpec)

end Rows
end Go.Proofs.YtfjlnniahfbdfaaGreat
