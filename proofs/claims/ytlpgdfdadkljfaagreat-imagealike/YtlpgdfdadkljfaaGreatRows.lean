/-
  No cell of these rows narrows 'for every input' (looked for: loops, veiled, ifaces, maps, wideKeys, modest, calm, conditions, laid).
  DERIVED. THE GIVEN ROWS OF THIS SEAT. 3 by the template 'for every input the law returns true; each argument reads behind the call as it read before'; 0 by the template 'total and deterministic' (their statements: YtlpgdfdadkljfaaGreatTotals.lean).
  GIVEN WITH THE SEED: the statements are not yours to turn. If you find one false, say at which input.
  Laid BY PROGRAM, IN A SANDBOX (cutbox-rows.mjs): the forced cells as the released guide's own fill.sh prints them over the translation 6f490d15dbd217f9… (all of the seat's roots in one cut). By AI agents, Wed Nov 11 2026. No macro, syntax, notation, axiom, sorry.
-/
import Derived.Test.YtlpgdfdadkljfaaGreatChecked
import GoSem.Claim
import GoSem.ClaimJoined
import GoSem.ClaimMapViews
import Derived.JoinedTies
import Derived.KernelRfl
namespace Go.Proofs.YtlpgdfdadkljfaaGreat
/- THE CELL 'sum', in the pinned program and in every row, IS THE sha256 OF THE DUMP (.gsa) THAT YtlpgdfdadkljfaaGreatProg.lean LOADS. Nothing in Lean hashes anything: it is a label: what it is worth is what the hold of that sum in a sandbox is worth. -/
noncomputable def Tryz.pinned : Pinned := { name := "ytlpgdfdadkljfaagreat", sum := "6f490d15dbd217f99509ab7319354ef575a278c171fa1fd8a7be7b9612adb0f4", checked := Tryz.checked }
namespace Rows
def none {H : Type} : Left H := { results := [], args := [] }

/-- 'becketlaw10.ImageBack': WHATEVER THE INPUT: true; the input reads as it did. -/
def imageBackSpec : ChangeSpec := { name := "imageBack", fn := fun _ => fun
  | [d1, d2] => { results := [.lit (.bool true)], args := [d1, d2] }
  | _ => none }
def imageBackRow : OpenClaim := { program := "ytlpgdfdadkljfaagreat", sum := "6f490d15dbd217f99509ab7319354ef575a278c171fa1fd8a7be7b9612adb0f4", func := "becket/becketlaw10.ImageBack", spec := "imageBack", inPlace := ["internal/bytealg.abigen_runtime_cmpstring", "slices.overlaps[becket/api.Entry]"], unfollowed := true, recurses := true, apart := false }
def ImageBackSaid : Prop := imageBackRow.holds Tryz.pinned (OpenSpec.ofChange imageBackSpec)

/-- ITS FALSE NEIGHBOUR: 'it returns false'. Refute it at one input. -/
def imageBackWrong : ChangeSpec := { name := "imageBack", fn := fun _ => fun
  | [d1, d2] => { results := [.lit (.bool false)], args := [d1, d2] }
  | _ => none }
def ImageBackWrongFalsely : Prop := imageBackRow.holds Tryz.pinned (OpenSpec.ofChange imageBackWrong)

/-- 'becketlaw10.ImageAlike': WHATEVER THE INPUT: true; the input reads as it did. -/
def imageAlikeSpec : ChangeSpec := { name := "imageAlike", fn := fun _ => fun
  | [d] => { results := [.lit (.bool true)], args := [d] }
  | _ => none }
def imageAlikeRow : OpenClaim := { program := "ytlpgdfdadkljfaagreat", sum := "6f490d15dbd217f99509ab7319354ef575a278c171fa1fd8a7be7b9612adb0f4", func := "becket/becketlaw10.ImageAlike", spec := "imageAlike", inPlace := ["internal/bytealg.abigen_runtime_cmpstring", "slices.overlaps[becket/api.Entry]"], unfollowed := true, recurses := true, apart := false }
def ImageAlikeSaid : Prop := imageAlikeRow.holds Tryz.pinned (OpenSpec.ofChange imageAlikeSpec)

/-- ITS FALSE NEIGHBOUR: 'it returns false'. Refute it at one input. -/
def imageAlikeWrong : ChangeSpec := { name := "imageAlike", fn := fun _ => fun
  | [d] => { results := [.lit (.bool false)], args := [d] }
  | _ => none }
def ImageAlikeWrongFalsely : Prop := imageAlikeRow.holds Tryz.pinned (OpenSpec.ofChange imageAlikeWrong)

/-- 'becketlaw10.ImageParts': WHATEVER THE INPUT: true; the input reads as it did. -/
def imagePartsSpec : ChangeSpec := { name := "imageParts", fn := fun _ => fun
  | [d] => { results := [.lit (.bool true)], args := [d] }
  | _ => none }
def imagePartsRow : OpenClaim := { program := "ytlpgdfdadkljfaagreat", sum := "6f490d15dbd217f99509ab7319354ef575a278c171fa1fd8a7be7b9612adb0f4", func := "becket/becketlaw10.ImageParts", spec := "imageParts", inPlace := ["internal/bytealg.abigen_runtime_cmpstring", "slices.overlaps[becket/api.Entry]"], unfollowed := true, recurses := true, apart := false }
def ImagePartsSaid : Prop := imagePartsRow.holds Tryz.pinned (OpenSpec.ofChange imagePartsSpec)

/-- ITS FALSE NEIGHBOUR: 'it returns false'. Refute it at one input. -/
def imagePartsWrong : ChangeSpec := { name := "imageParts", fn := fun _ => fun
  | [d] => { results := [.lit (.bool false)], args := [d] }
  | _ => none }
def ImagePartsWrongFalsely : Prop := imagePartsRow.holds Tryz.pinned (OpenSpec.ofChange imagePartsWrong)

/- THE SECOND FORM. 'bulk': how many values and letters a reading holds, each counted each time it is reached (what is shared counts as often as it is met; a slice's spare places count too). A statement '..UptoSaid' is the law's where the arguments, and the package variables that the reading takes, are together of bulk at most 1048576: NARROWER than '..Said'. Prove '..Said' where nothing that the law and all that it calls make is longer than what came in: it says more and counts as full. Else prove '..UptoSaid'. A law counts once. -/
mutual
def uptoBulk {H : Type} : DataW H → Nat
  | .lit (.string bytes) => bytes.length + 1
  | .lit _ => 1
  | .nil => 1
  | .ptr d => uptoBulk d + 1
  | .slice elems spare => uptoBulkAll elems + uptoBulkAll spare + 1
  | .agg parts => uptoBulkAll parts + 1
  | .iface _ d => uptoBulk d + 1
  | .map entries => uptoBulkEntries entries + 1
  | .held _ => 1
def uptoBulkAll {H : Type} : List (DataW H) → Nat
  | [] => 0
  | d :: r => uptoBulk d + uptoBulkAll r
def uptoBulkEntries {H : Type} : List (Lit × DataW H) → Nat
  | [] => 0
  | x :: r => uptoBulkEntry x + uptoBulkEntries r
def uptoBulkEntry {H : Type} : Lit × DataW H → Nat
  | (.string bytes, d) => bytes.length + uptoBulk d + 1
  | (_, d) => uptoBulk d + 1
 end
def uptoSmall : (H : Type) → List (DataW H) → Bool := fun _ ds => decide (uptoBulkAll ds ≤ 1048576)
def OpenSpec.upto (s : _root_.Go.ChangeSpec) : _root_.Go.OpenSpec := { _root_.Go.OpenSpec.ofChange s with cond := some uptoSmall }

/-- 'becketlaw10.ImageBack', WHERE WHAT IT READS IS OF BULK AT MOST 1048576: true; the input reads as it did. -/
def imageBackUptoRow : OpenClaim := { program := "ytlpgdfdadkljfaagreat", sum := "6f490d15dbd217f99509ab7319354ef575a278c171fa1fd8a7be7b9612adb0f4", func := "becket/becketlaw10.ImageBack", spec := "imageBack", inPlace := ["internal/bytealg.abigen_runtime_cmpstring", "slices.overlaps[becket/api.Entry]"], unfollowed := true, recurses := true, apart := false, narrowed := true }
def ImageBackUptoSaid : Prop := imageBackUptoRow.holds Tryz.pinned (OpenSpec.upto imageBackSpec)

/-- 'becketlaw10.ImageAlike', WHERE WHAT IT READS IS OF BULK AT MOST 1048576: true; the input reads as it did. -/
def imageAlikeUptoRow : OpenClaim := { program := "ytlpgdfdadkljfaagreat", sum := "6f490d15dbd217f99509ab7319354ef575a278c171fa1fd8a7be7b9612adb0f4", func := "becket/becketlaw10.ImageAlike", spec := "imageAlike", inPlace := ["internal/bytealg.abigen_runtime_cmpstring", "slices.overlaps[becket/api.Entry]"], unfollowed := true, recurses := true, apart := false, narrowed := true }
def ImageAlikeUptoSaid : Prop := imageAlikeUptoRow.holds Tryz.pinned (OpenSpec.upto imageAlikeSpec)

/-- 'becketlaw10.ImageParts', WHERE WHAT IT READS IS OF BULK AT MOST 1048576: true; the input reads as it did. -/
def imagePartsUptoRow : OpenClaim := { program := "ytlpgdfdadkljfaagreat", sum := "6f490d15dbd217f99509ab7319354ef575a278c171fa1fd8a7be7b9612adb0f4", func := "becket/becketlaw10.ImageParts", spec := "imageParts", inPlace := ["internal/bytealg.abigen_runtime_cmpstring", "slices.overlaps[becket/api.Entry]"], unfollowed := true, recurses := true, apart := false, narrowed := true }
def ImagePartsUptoSaid : Prop := imagePartsUptoRow.holds Tryz.pinned (OpenSpec.upto imagePartsSpec)

end Rows
end Go.Proofs.YtlpgdfdadkljfaaGreat
