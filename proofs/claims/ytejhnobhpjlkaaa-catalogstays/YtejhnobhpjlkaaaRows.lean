/-
  No cell of these rows narrows 'for every input' (looked for: loops, veiled, ifaces, maps, wideKeys, modest, calm, conditions, laid).
  DERIVED. THE GIVEN ROWS OF THIS SEAT. 5 by the template 'for every input the law returns true; each argument reads behind the call as it read before'; 0 by the template 'total and deterministic' (their statements: YtejhnobhpjlkaaaTotals.lean).
  GIVEN WITH THE SEED: the statements are not yours to turn. If you find one false, say at which input.
  Laid BY PROGRAM, IN A SANDBOX (cutbox-rows.mjs): the forced cells as the released guide's own fill.sh prints them over the translation b8972eee4633e70d… (all of the seat's roots in one cut). By AI agents, Wed Nov 11 2026. No macro, syntax, notation, axiom, sorry.
-/
import Derived.Test.YtejhnobhpjlkaaaChecked
import GoSem.Claim
import GoSem.ClaimJoined
import GoSem.ClaimMapViews
import Derived.JoinedTies
import Derived.KernelRfl
namespace Go.Proofs.Ytejhnobhpjlkaaa
/- THE CELL 'sum', in the pinned program and in every row, IS THE sha256 OF THE DUMP (.gsa) THAT YtejhnobhpjlkaaaProg.lean LOADS. Nothing in Lean hashes anything: it is a label: what it is worth is what the hold of that sum in a sandbox is worth. -/
noncomputable def Try.pinned : Pinned := { name := "ytejhnobhpjlkaaa", sum := "b8972eee4633e70d90f77733bca915d628094128bae2e9e8fd35f2a2bedff3ec", checked := Try.checked }
namespace Rows
def none {H : Type} : Left H := { results := [], args := [] }

/-- 'becketlaw09.CatalogApart': WHATEVER THE INPUT: true; the input reads as it did. -/
def catalogApartSpec : ChangeSpec := { name := "catalogApart", fn := fun _ => fun
  | [d1, d2] => { results := [.lit (.bool true)], args := [d1, d2] }
  | _ => none }
def catalogApartRow : OpenClaim := { program := "ytejhnobhpjlkaaa", sum := "b8972eee4633e70d90f77733bca915d628094128bae2e9e8fd35f2a2bedff3ec", func := "becket/becketlaw09.CatalogApart", spec := "catalogApart", inPlace := ["internal/bytealg.abigen_runtime_cmpstring", "slices.overlaps[becket/api.Entry]"], unfollowed := true, recurses := true, apart := false }
def CatalogApartSaid : Prop := catalogApartRow.holds Try.pinned (OpenSpec.ofChange catalogApartSpec)

/-- ITS FALSE NEIGHBOUR: 'it returns false'. Refute it at one input. -/
def catalogApartWrong : ChangeSpec := { name := "catalogApart", fn := fun _ => fun
  | [d1, d2] => { results := [.lit (.bool false)], args := [d1, d2] }
  | _ => none }
def CatalogApartWrongFalsely : Prop := catalogApartRow.holds Try.pinned (OpenSpec.ofChange catalogApartWrong)

/-- 'becketlaw09.CatalogPlans': WHATEVER THE INPUT: true; the input reads as it did. -/
def catalogPlansSpec : ChangeSpec := { name := "catalogPlans", fn := fun _ => fun
  | [d1, d2, d3, d4] => { results := [.lit (.bool true)], args := [d1, d2, d3, d4] }
  | _ => none }
def catalogPlansRow : OpenClaim := { program := "ytejhnobhpjlkaaa", sum := "b8972eee4633e70d90f77733bca915d628094128bae2e9e8fd35f2a2bedff3ec", func := "becket/becketlaw09.CatalogPlans", spec := "catalogPlans", inPlace := ["internal/bytealg.abigen_runtime_cmpstring", "slices.overlaps[becket/api.Entry]"], unfollowed := true, recurses := true, apart := false }
def CatalogPlansSaid : Prop := catalogPlansRow.holds Try.pinned (OpenSpec.ofChange catalogPlansSpec)

/-- ITS FALSE NEIGHBOUR: 'it returns false'. Refute it at one input. -/
def catalogPlansWrong : ChangeSpec := { name := "catalogPlans", fn := fun _ => fun
  | [d1, d2, d3, d4] => { results := [.lit (.bool false)], args := [d1, d2, d3, d4] }
  | _ => none }
def CatalogPlansWrongFalsely : Prop := catalogPlansRow.holds Try.pinned (OpenSpec.ofChange catalogPlansWrong)

/-- 'becketlaw09.CatalogRefuses': WHATEVER THE INPUT: true; the input reads as it did. -/
def catalogRefusesSpec : ChangeSpec := { name := "catalogRefuses", fn := fun _ => fun
  | [d] => { results := [.lit (.bool true)], args := [d] }
  | _ => none }
def catalogRefusesRow : OpenClaim := { program := "ytejhnobhpjlkaaa", sum := "b8972eee4633e70d90f77733bca915d628094128bae2e9e8fd35f2a2bedff3ec", func := "becket/becketlaw09.CatalogRefuses", spec := "catalogRefuses", inPlace := ["internal/bytealg.abigen_runtime_cmpstring", "slices.overlaps[becket/api.Entry]"], unfollowed := true, recurses := true, apart := false }
def CatalogRefusesSaid : Prop := catalogRefusesRow.holds Try.pinned (OpenSpec.ofChange catalogRefusesSpec)

/-- ITS FALSE NEIGHBOUR: 'it returns false'. Refute it at one input. -/
def catalogRefusesWrong : ChangeSpec := { name := "catalogRefuses", fn := fun _ => fun
  | [d] => { results := [.lit (.bool false)], args := [d] }
  | _ => none }
def CatalogRefusesWrongFalsely : Prop := catalogRefusesRow.holds Try.pinned (OpenSpec.ofChange catalogRefusesWrong)

/-- 'becketlaw09.CatalogStays': WHATEVER THE INPUT: true; the input reads as it did. -/
def catalogStaysSpec : ChangeSpec := { name := "catalogStays", fn := fun _ => fun
  | [d1, d2] => { results := [.lit (.bool true)], args := [d1, d2] }
  | _ => none }
def catalogStaysRow : OpenClaim := { program := "ytejhnobhpjlkaaa", sum := "b8972eee4633e70d90f77733bca915d628094128bae2e9e8fd35f2a2bedff3ec", func := "becket/becketlaw09.CatalogStays", spec := "catalogStays", inPlace := ["internal/bytealg.abigen_runtime_cmpstring", "slices.overlaps[becket/api.Entry]"], unfollowed := true, recurses := true, apart := false }
def CatalogStaysSaid : Prop := catalogStaysRow.holds Try.pinned (OpenSpec.ofChange catalogStaysSpec)

/-- ITS FALSE NEIGHBOUR: 'it returns false'. Refute it at one input. -/
def catalogStaysWrong : ChangeSpec := { name := "catalogStays", fn := fun _ => fun
  | [d1, d2] => { results := [.lit (.bool false)], args := [d1, d2] }
  | _ => none }
def CatalogStaysWrongFalsely : Prop := catalogStaysRow.holds Try.pinned (OpenSpec.ofChange catalogStaysWrong)

/-- 'becketlaw09.CatalogAborts': WHATEVER THE INPUT: true; the input reads as it did. -/
def catalogAbortsSpec : ChangeSpec := { name := "catalogAborts", fn := fun _ => fun
  | [d1, d2, d3, d4] => { results := [.lit (.bool true)], args := [d1, d2, d3, d4] }
  | _ => none }
def catalogAbortsRow : OpenClaim := { program := "ytejhnobhpjlkaaa", sum := "b8972eee4633e70d90f77733bca915d628094128bae2e9e8fd35f2a2bedff3ec", func := "becket/becketlaw09.CatalogAborts", spec := "catalogAborts", inPlace := ["internal/bytealg.abigen_runtime_cmpstring", "slices.overlaps[becket/api.Entry]"], unfollowed := true, recurses := true, apart := false }
def CatalogAbortsSaid : Prop := catalogAbortsRow.holds Try.pinned (OpenSpec.ofChange catalogAbortsSpec)

/-- ITS FALSE NEIGHBOUR: 'it returns false'. Refute it at one input. -/
def catalogAbortsWrong : ChangeSpec := { name := "catalogAborts", fn := fun _ => fun
  | [d1, d2, d3, d4] => { results := [.lit (.bool false)], args := [d1, d2, d3, d4] }
  | _ => none }
def CatalogAbortsWrongFalsely : Prop := catalogAbortsRow.holds Try.pinned (OpenSpec.ofChange catalogAbortsWrong)

/- THE SECOND FORM. 'bulk': how many values and letters a reading holds, each counted each time it is reached (what is shared counts as often as it is met; a slice's spare places count too). A statement '..UptoSaid' is the law's where the arguments, and the package variables that the reading takes, are together of bulk at most 1048576: NARROWER than '..Said'. Prove '..Said' where nothing that the law and all that it calls make is longer than what came in: it says more and counts as full. Else prove '..UptoSaid'. A law counts once. -/
mutual
def uptoBulk {H : Type} : DataW H → Nat
  | .lit (.string bytes) => bytes.length + 1
  | .lit _ => 1
  | .nil => 1
  | .ptr d => uptoBulk d + 1
  | .slice elems spare => uptoBulkAll elems + uptoBulkAll spare + 1
  | .agg parts => uptoBulkAll parts + 1
  | .iface _ d => uptoBulk d + 1
  | .map entries => uptoBulkEntries entries + 1
  | .held _ => 1
def uptoBulkAll {H : Type} : List (DataW H) → Nat
  | [] => 0
  | d :: r => uptoBulk d + uptoBulkAll r
def uptoBulkEntries {H : Type} : List (Lit × DataW H) → Nat
  | [] => 0
  | x :: r => uptoBulkEntry x + uptoBulkEntries r
def uptoBulkEntry {H : Type} : Lit × DataW H → Nat
  | (.string bytes, d) => bytes.length + uptoBulk d + 1
  | (_, d) => uptoBulk d + 1
 end
def uptoSmall : (H : Type) → List (DataW H) → Bool := fun _ ds => decide (uptoBulkAll ds ≤ 1048576)
def OpenSpec.upto (s : _root_.Go.ChangeSpec) : _root_.Go.OpenSpec := { _root_.Go.OpenSpec.ofChange s with cond := some uptoSmall }

/-- 'becketlaw09.CatalogApart', WHERE WHAT IT READS IS OF BULK AT MOST 1048576: true; the input reads as it did. -/
def catalogApartUptoRow : OpenClaim := { program := "ytejhnobhpjlkaaa", sum := "b8972eee4633e70d90f77733bca915d628094128bae2e9e8fd35f2a2bedff3ec", func := "becket/becketlaw09.CatalogApart", spec := "catalogApart", inPlace := ["internal/bytealg.abigen_runtime_cmpstring", "slices.overlaps[becket/api.Entry]"], unfollowed := true, recurses := true, apart := false, narrowed := true }
def CatalogApartUptoSaid : Prop := catalogApartUptoRow.holds Try.pinned (OpenSpec.upto catalogApartSpec)

/-- 'becketlaw09.CatalogPlans', WHERE WHAT IT READS IS OF BULK AT MOST 1048576: true; the input reads as it did. -/
def catalogPlansUptoRow : OpenClaim := { program := "ytejhnobhpjlkaaa", sum := "b8972eee4633e70d90f77733bca915d628094128bae2e9e8fd35f2a2bedff3ec", func := "becket/becketlaw09.CatalogPlans", spec := "catalogPlans", inPlace := ["internal/bytealg.abigen_runtime_cmpstring", "slices.overlaps[becket/api.Entry]"], unfollowed := true, recurses := true, apart := false, narrowed := true }
def CatalogPlansUptoSaid : Prop := catalogPlansUptoRow.holds Try.pinned (OpenSpec.upto catalogPlansSpec)

/-- 'becketlaw09.CatalogRefuses', WHERE WHAT IT READS IS OF BULK AT MOST 1048576: true; the input reads as it did. -/
def catalogRefusesUptoRow : OpenClaim := { program := "ytejhnobhpjlkaaa", sum := "b8972eee4633e70d90f77733bca915d628094128bae2e9e8fd35f2a2bedff3ec", func := "becket/becketlaw09.CatalogRefuses", spec := "catalogRefuses", inPlace := ["internal/bytealg.abigen_runtime_cmpstring", "slices.overlaps[becket/api.Entry]"], unfollowed := true, recurses := true, apart := false, narrowed := true }
def CatalogRefusesUptoSaid : Prop := catalogRefusesUptoRow.holds Try.pinned (OpenSpec.upto catalogRefusesSpec)

/-- 'becketlaw09.CatalogStays', WHERE WHAT IT READS IS OF BULK AT MOST 1048576: true; the input reads as it did. -/
def catalogStaysUptoRow : OpenClaim := { program := "ytejhnobhpjlkaaa", sum := "b8972eee4633e70d90f77733bca915d628094128bae2e9e8fd35f2a2bedff3ec", func := "becket/becketlaw09.CatalogStays", spec := "catalogStays", inPlace := ["internal/bytealg.abigen_runtime_cmpstring", "slices.overlaps[becket/api.Entry]"], unfollowed := true, recurses := true, apart := false, narrowed := true }
def CatalogStaysUptoSaid : Prop := catalogStaysUptoRow.holds Try.pinned (OpenSpec.upto catalogStaysSpec)

/-- 'becketlaw09.CatalogAborts', WHERE WHAT IT READS IS OF BULK AT MOST 1048576: true; the input reads as it did. -/
def catalogAbortsUptoRow : OpenClaim := { program := "ytejhnobhpjlkaaa", sum := "b8972eee4633e70d90f77733bca915d628094128bae2e9e8fd35f2a2bedff3ec", func := "becket/becketlaw09.CatalogAborts", spec := "catalogAborts", inPlace := ["internal/bytealg.abigen_runtime_cmpstring", "slices.overlaps[becket/api.Entry]"], unfollowed := true, recurses := true, apart := false, narrowed := true }
def CatalogAbortsUptoSaid : Prop := catalogAbortsUptoRow.holds Try.pinned (OpenSpec.upto catalogAbortsSpec)

end Rows
end Go.Proofs.Ytejhnobhpjlkaaa
