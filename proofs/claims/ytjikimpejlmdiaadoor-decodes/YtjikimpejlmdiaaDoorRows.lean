/-
  NARROWER THAN 'FOR EVERY INPUT', by the rows' own cells (each row's printed sentence says how): Decodes: laid.
  DERIVED. THE GIVEN ROWS OF THIS SEAT. 1 by the template 'for every input the law returns true; each argument reads behind the call as it read before'; 0 by the template 'total and deterministic' (their statements: YtjikimpejlmdiaaDoorTotals.lean).
  GIVEN WITH THE SEED: the statements are not yours to turn. If you find one false, say at which input.
  Laid BY PROGRAM, IN A SANDBOX (cutbox-rows.mjs): the forced cells as the released guide's own fill.sh prints them over the translation b2a349a1ba68cb6b… (all of the seat's roots in one cut). By AI agents, Wed Nov 11 2026. No macro, syntax, notation, axiom, sorry.
-/
import Derived.Test.YtjikimpejlmdiaaDoorChecked
import GoSem.Claim
import GoSem.ClaimJoined
import GoSem.ClaimMapViews
import Derived.JoinedTies
import Derived.KernelRfl
namespace Go.Proofs.YtjikimpejlmdiaaDoor
/- THE CELL 'sum', in the pinned program and in every row, IS THE sha256 OF THE DUMP (.gsa) THAT YtjikimpejlmdiaaDoorProg.lean LOADS. Nothing in Lean hashes anything: it is a label: what it is worth is what the hold of that sum in a sandbox is worth. -/
noncomputable def Tryd.pinned : Pinned := { name := "ytjikimpejlmdiaadoor", sum := "b2a349a1ba68cb6be89e267be5c53447d6fbe3c14f777311a407e1dc607beb55", checked := Tryd.checked }
namespace Rows
def none {H : Type} : Left H := { results := [], args := [] }

/- WHAT THE LISTED PACKAGE-LEVEL VARIABLES READ AS WHEN THE CALL BEGINS. Each datum BY PROGRAM (the guide's laid-datum.mjs) off the statement by which the dump's own 'gosem.cut.vars' lays the variable. In a bare row this is a premise. The card (YtjikimpejlmdiaaDoorCards.lean) ties it to the program's text. -/
def laid_chains_decode_branches {H : Type} : DataW H := .agg [.lit (.int .i64 4), .lit (.int .i64 5), .lit (.int .i64 (-1)), .lit (.int .i64 (-1)), .lit (.int .i64 6), .lit (.int .i64 7), .lit (.int .i64 8), .lit (.int .i64 9)]
def laid_chains_decode_loads {H : Type} : DataW H := .agg [.lit (.int .i64 10), .lit (.int .i64 11), .lit (.int .i64 12), .lit (.int .i64 (-1)), .lit (.int .i64 13), .lit (.int .i64 14), .lit (.int .i64 (-1)), .lit (.int .i64 (-1))]
def laid_chains_decode_stores {H : Type} : DataW H := .agg [.lit (.int .i64 15), .lit (.int .i64 16), .lit (.int .i64 17), .lit (.int .i64 (-1)), .lit (.int .i64 (-1)), .lit (.int .i64 (-1)), .lit (.int .i64 (-1)), .lit (.int .i64 (-1))]
def laid_chains_decode_immediates {H : Type} : DataW H := .agg [.lit (.int .i64 18), .lit (.int .i64 (-1)), .lit (.int .i64 19), .lit (.int .i64 20), .lit (.int .i64 21), .lit (.int .i64 (-1)), .lit (.int .i64 22), .lit (.int .i64 23)]
def laid_chains_decode_plain {H : Type} : DataW H := .agg [.lit (.int .i64 27), .lit (.int .i64 29), .lit (.int .i64 30), .lit (.int .i64 31), .lit (.int .i64 32), .lit (.int .i64 33), .lit (.int .i64 35), .lit (.int .i64 36)]
def laid_chains_decode_opposite {H : Type} : DataW H := .agg [.lit (.int .i64 28), .lit (.int .i64 (-1)), .lit (.int .i64 (-1)), .lit (.int .i64 (-1)), .lit (.int .i64 (-1)), .lit (.int .i64 34), .lit (.int .i64 (-1)), .lit (.int .i64 (-1))]
def laid_chains_decode_products {H : Type} : DataW H := .agg [.lit (.int .i64 37), .lit (.int .i64 38), .lit (.int .i64 39), .lit (.int .i64 40), .lit (.int .i64 41), .lit (.int .i64 42), .lit (.int .i64 43), .lit (.int .i64 44)]

/-- 'chainslaw.Decodes': WHATEVER THE INPUT: true; the input reads as it did. -/
def decodesSpec : ChangeSpec := { name := "decodes", fn := fun _ => fun
  | [d] => { results := [.lit (.bool true)], args := [d] }
  | _ => none }
def decodesRow : OpenClaim := { program := "ytjikimpejlmdiaadoor", sum := "b2a349a1ba68cb6be89e267be5c53447d6fbe3c14f777311a407e1dc607beb55", func := "chains/chainslaw.Decodes", spec := "decodes", named := ["chains/decode.branches", "chains/decode.loads", "chains/decode.stores", "chains/decode.immediates", "chains/decode.plain", "chains/decode.opposite", "chains/decode.products"], apart := false, laid := [("chains/decode.branches", laid_chains_decode_branches), ("chains/decode.loads", laid_chains_decode_loads), ("chains/decode.stores", laid_chains_decode_stores), ("chains/decode.immediates", laid_chains_decode_immediates), ("chains/decode.plain", laid_chains_decode_plain), ("chains/decode.opposite", laid_chains_decode_opposite), ("chains/decode.products", laid_chains_decode_products)] }
def DecodesSaid : Prop := decodesRow.holds Tryd.pinned (OpenSpec.ofChange decodesSpec)

/-- ITS FALSE NEIGHBOUR: 'it returns false'. Refute it at one input. -/
def decodesWrong : ChangeSpec := { name := "decodes", fn := fun _ => fun
  | [d] => { results := [.lit (.bool false)], args := [d] }
  | _ => none }
def DecodesWrongFalsely : Prop := decodesRow.holds Tryd.pinned (OpenSpec.ofChange decodesWrong)

/- THE SECOND FORM. 'bulk': how many values and letters a reading holds, each counted each time it is reached (what is shared counts as often as it is met; a slice's spare places count too). A statement '..UptoSaid' is the law's where the arguments, and the package variables that the reading takes, are together of bulk at most 1048576: NARROWER than '..Said'. Prove '..Said' where nothing that the law and all that it calls make is longer than what came in: it says more and counts as full. Else prove '..UptoSaid'. A law counts once. -/
mutual
def uptoBulk {H : Type} : DataW H → Nat
  | .lit (.string bytes) => bytes.length + 1
  | .lit _ => 1
  | .nil => 1
  | .ptr d => uptoBulk d + 1
  | .slice elems spare => uptoBulkAll elems + uptoBulkAll spare + 1
  | .agg parts => uptoBulkAll parts + 1
  | .iface _ d => uptoBulk d + 1
  | .map entries => uptoBulkEntries entries + 1
  | .held _ => 1
def uptoBulkAll {H : Type} : List (DataW H) → Nat
  | [] => 0
  | d :: r => uptoBulk d + uptoBulkAll r
def uptoBulkEntries {H : Type} : List (Lit × DataW H) → Nat
  | [] => 0
  | x :: r => uptoBulkEntry x + uptoBulkEntries r
def uptoBulkEntry {H : Type} : Lit × DataW H → Nat
  | (.string bytes, d) => bytes.length + uptoBulk d + 1
  | (_, d) => uptoBulk d + 1
 end
def uptoSmall : (H : Type) → List (DataW H) → Bool := fun _ ds => decide (uptoBulkAll ds ≤ 1048576)
def OpenSpec.upto (s : _root_.Go.ChangeSpec) : _root_.Go.OpenSpec := { _root_.Go.OpenSpec.ofChange s with cond := some uptoSmall }

/-- 'chainslaw.Decodes', WHERE WHAT IT READS IS OF BULK AT MOST 1048576: true; the input reads as it did. -/
def decodesUptoRow : OpenClaim := { program := "ytjikimpejlmdiaadoor", sum := "b2a349a1ba68cb6be89e267be5c53447d6fbe3c14f777311a407e1dc607beb55", func := "chains/chainslaw.Decodes", spec := "decodes", named := ["chains/decode.branches", "chains/decode.loads", "chains/decode.stores", "chains/decode.immediates", "chains/decode.plain", "chains/decode.opposite", "chains/decode.products"], apart := false, laid := [("chains/decode.branches", laid_chains_decode_branches), ("chains/decode.loads", laid_chains_decode_loads), ("chains/decode.stores", laid_chains_decode_stores), ("chains/decode.immediates", laid_chains_decode_immediates), ("chains/decode.plain", laid_chains_decode_plain), ("chains/decode.opposite", laid_chains_decode_opposite), ("chains/decode.products", laid_chains_decode_products)], narrowed := true }
def DecodesUptoSaid : Prop := decodesUptoRow.holds Tryd.pinned (OpenSpec.upto decodesSpec)

end Rows
end Go.Proofs.YtjikimpejlmdiaaDoor
