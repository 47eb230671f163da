/-
  NARROWER THAN 'FOR EVERY INPUT', by the rows' own cells (each row's printed sentence says how): Interprets: laid · Runs: laid · Profiles: laid · All: laid · Alike: laid · Sober: laid · Further: laid · Changed: laid · Sums: laid.
  DERIVED. THE GIVEN ROWS OF THIS SEAT. 9 by the template 'for every input the law returns true; each argument reads behind the call as it read before'; 0 by the template 'total and deterministic' (their statements: YtjikimpejlmdiaaGreatDoorTotals.lean).
  GIVEN WITH THE SEED: the statements are not yours to turn. If you find one false, say at which input.
  Laid BY PROGRAM, IN A SANDBOX (cutbox-rows.mjs): the forced cells as the released guide's own fill.sh prints them over the translation 6a01939f222daf61… (all of the seat's roots in one cut). By AI agents, Wed Nov 11 2026. No macro, syntax, notation, axiom, sorry.
-/
import Derived.Test.YtjikimpejlmdiaaGreatDoorChecked
import GoSem.Claim
import GoSem.ClaimJoined
import GoSem.ClaimMapViews
import Derived.JoinedTies
import Derived.KernelRfl
namespace Go.Proofs.YtjikimpejlmdiaaGreatDoor
/- THE CELL 'sum', in the pinned program and in every row, IS THE sha256 OF THE DUMP (.gsa) THAT YtjikimpejlmdiaaGreatDoorProg.lean LOADS. Nothing in Lean hashes anything: it is a label: what it is worth is what the hold of that sum in a sandbox is worth. -/
noncomputable def Tryz.pinned : Pinned := { name := "ytjikimpejlmdiaagreatdoor", sum := "6a01939f222daf61484275b8e324b4e6018336d390ca3d19c6da7dd80922d728", checked := Tryz.checked }
namespace Rows
def none {H : Type} : Left H := { results := [], args := [] }

/- WHAT THE LISTED PACKAGE-LEVEL VARIABLES READ AS WHEN THE CALL BEGINS. Each datum BY PROGRAM (the guide's laid-datum.mjs) off the statement by which the dump's own 'gosem.cut.vars' lays the variable. In a bare row this is a premise. The card (YtjikimpejlmdiaaGreatDoorCards.lean) ties it to the program's text. -/
def laid_chains_decode_branches {H : Type} : DataW H := .agg [.lit (.int .i64 4), .lit (.int .i64 5), .lit (.int .i64 (-1)), .lit (.int .i64 (-1)), .lit (.int .i64 6), .lit (.int .i64 7), .lit (.int .i64 8), .lit (.int .i64 9)]
def laid_chains_decode_loads {H : Type} : DataW H := .agg [.lit (.int .i64 10), .lit (.int .i64 11), .lit (.int .i64 12), .lit (.int .i64 (-1)), .lit (.int .i64 13), .lit (.int .i64 14), .lit (.int .i64 (-1)), .lit (.int .i64 (-1))]
def laid_chains_decode_stores {H : Type} : DataW H := .agg [.lit (.int .i64 15), .lit (.int .i64 16), .lit (.int .i64 17), .lit (.int .i64 (-1)), .lit (.int .i64 (-1)), .lit (.int .i64 (-1)), .lit (.int .i64 (-1)), .lit (.int .i64 (-1))]
def laid_chains_decode_immediates {H : Type} : DataW H := .agg [.lit (.int .i64 18), .lit (.int .i64 (-1)), .lit (.int .i64 19), .lit (.int .i64 20), .lit (.int .i64 21), .lit (.int .i64 (-1)), .lit (.int .i64 22), .lit (.int .i64 23)]
def laid_chains_decode_plain {H : Type} : DataW H := .agg [.lit (.int .i64 27), .lit (.int .i64 29), .lit (.int .i64 30), .lit (.int .i64 31), .lit (.int .i64 32), .lit (.int .i64 33), .lit (.int .i64 35), .lit (.int .i64 36)]
def laid_chains_decode_opposite {H : Type} : DataW H := .agg [.lit (.int .i64 28), .lit (.int .i64 (-1)), .lit (.int .i64 (-1)), .lit (.int .i64 (-1)), .lit (.int .i64 (-1)), .lit (.int .i64 34), .lit (.int .i64 (-1)), .lit (.int .i64 (-1))]
def laid_chains_decode_products {H : Type} : DataW H := .agg [.lit (.int .i64 37), .lit (.int .i64 38), .lit (.int .i64 39), .lit (.int .i64 40), .lit (.int .i64 41), .lit (.int .i64 42), .lit (.int .i64 43), .lit (.int .i64 44)]

/-- 'chainslaw.Interprets': WHATEVER THE INPUT: true; the input reads as it did. -/
def interpretsSpec : ChangeSpec := { name := "interprets", fn := fun _ => fun
  | [d] => { results := [.lit (.bool true)], args := [d] }
  | _ => none }
def interpretsRow : OpenClaim := { program := "ytjikimpejlmdiaagreatdoor", sum := "6a01939f222daf61484275b8e324b4e6018336d390ca3d19c6da7dd80922d728", func := "chains/chainslaw.Interprets", spec := "interprets", unfollowed := true, recurses := true, named := ["chains/decode.branches", "chains/decode.loads", "chains/decode.stores", "chains/decode.immediates", "chains/decode.plain", "chains/decode.opposite", "chains/decode.products"], apart := false, laid := [("chains/decode.branches", laid_chains_decode_branches), ("chains/decode.loads", laid_chains_decode_loads), ("chains/decode.stores", laid_chains_decode_stores), ("chains/decode.immediates", laid_chains_decode_immediates), ("chains/decode.plain", laid_chains_decode_plain), ("chains/decode.opposite", laid_chains_decode_opposite), ("chains/decode.products", laid_chains_decode_products)] }
def InterpretsSaid : Prop := interpretsRow.holds Tryz.pinned (OpenSpec.ofChange interpretsSpec)

/-- ITS FALSE NEIGHBOUR: 'it returns false'. Refute it at one input. -/
def interpretsWrong : ChangeSpec := { name := "interprets", fn := fun _ => fun
  | [d] => { results := [.lit (.bool false)], args := [d] }
  | _ => none }
def InterpretsWrongFalsely : Prop := interpretsRow.holds Tryz.pinned (OpenSpec.ofChange interpretsWrong)

/-- 'chainslaw.Runs': WHATEVER THE INPUT: true; the input reads as it did. -/
def runsSpec : ChangeSpec := { name := "runs", fn := fun _ => fun
  | [d] => { results := [.lit (.bool true)], args := [d] }
  | _ => none }
def runsRow : OpenClaim := { program := "ytjikimpejlmdiaagreatdoor", sum := "6a01939f222daf61484275b8e324b4e6018336d390ca3d19c6da7dd80922d728", func := "chains/chainslaw.Runs", spec := "runs", unfollowed := true, recurses := true, named := ["chains/decode.branches", "chains/decode.loads", "chains/decode.stores", "chains/decode.immediates", "chains/decode.plain", "chains/decode.opposite", "chains/decode.products"], apart := false, laid := [("chains/decode.branches", laid_chains_decode_branches), ("chains/decode.loads", laid_chains_decode_loads), ("chains/decode.stores", laid_chains_decode_stores), ("chains/decode.immediates", laid_chains_decode_immediates), ("chains/decode.plain", laid_chains_decode_plain), ("chains/decode.opposite", laid_chains_decode_opposite), ("chains/decode.products", laid_chains_decode_products)] }
def RunsSaid : Prop := runsRow.holds Tryz.pinned (OpenSpec.ofChange runsSpec)

/-- ITS FALSE NEIGHBOUR: 'it returns false'. Refute it at one input. -/
def runsWrong : ChangeSpec := { name := "runs", fn := fun _ => fun
  | [d] => { results := [.lit (.bool false)], args := [d] }
  | _ => none }
def RunsWrongFalsely : Prop := runsRow.holds Tryz.pinned (OpenSpec.ofChange runsWrong)

/-- 'chainslaw.Profiles': WHATEVER THE INPUT: true; the input reads as it did. -/
def profilesSpec : ChangeSpec := { name := "profiles", fn := fun _ => fun
  | [d] => { results := [.lit (.bool true)], args := [d] }
  | _ => none }
def profilesRow : OpenClaim := { program := "ytjikimpejlmdiaagreatdoor", sum := "6a01939f222daf61484275b8e324b4e6018336d390ca3d19c6da7dd80922d728", func := "chains/chainslaw.Profiles", spec := "profiles", unfollowed := true, recurses := true, named := ["chains/decode.branches", "chains/decode.loads", "chains/decode.stores", "chains/decode.immediates", "chains/decode.plain", "chains/decode.opposite", "chains/decode.products"], apart := false, laid := [("chains/decode.branches", laid_chains_decode_branches), ("chains/decode.loads", laid_chains_decode_loads), ("chains/decode.stores", laid_chains_decode_stores), ("chains/decode.immediates", laid_chains_decode_immediates), ("chains/decode.plain", laid_chains_decode_plain), ("chains/decode.opposite", laid_chains_decode_opposite), ("chains/decode.products", laid_chains_decode_products)] }
def ProfilesSaid : Prop := profilesRow.holds Tryz.pinned (OpenSpec.ofChange profilesSpec)

/-- ITS FALSE NEIGHBOUR: 'it returns false'. Refute it at one input. -/
def profilesWrong : ChangeSpec := { name := "profiles", fn := fun _ => fun
  | [d] => { results := [.lit (.bool false)], args := [d] }
  | _ => none }
def ProfilesWrongFalsely : Prop := profilesRow.holds Tryz.pinned (OpenSpec.ofChange profilesWrong)

/-- 'chainslaw.All': WHATEVER THE INPUT: true; the input reads as it did. -/
def allSpec : ChangeSpec := { name := "all", fn := fun _ => fun
  | [d1, d2, d3, d4, d5, d6] => { results := [.lit (.bool true)], args := [d1, d2, d3, d4, d5, d6] }
  | _ => none }
def allRow : OpenClaim := { program := "ytjikimpejlmdiaagreatdoor", sum := "6a01939f222daf61484275b8e324b4e6018336d390ca3d19c6da7dd80922d728", func := "chains/chainslaw.All", spec := "all", unfollowed := true, recurses := true, named := ["chains/decode.branches", "chains/decode.loads", "chains/decode.stores", "chains/decode.immediates", "chains/decode.plain", "chains/decode.opposite", "chains/decode.products"], apart := false, laid := [("chains/decode.branches", laid_chains_decode_branches), ("chains/decode.loads", laid_chains_decode_loads), ("chains/decode.stores", laid_chains_decode_stores), ("chains/decode.immediates", laid_chains_decode_immediates), ("chains/decode.plain", laid_chains_decode_plain), ("chains/decode.opposite", laid_chains_decode_opposite), ("chains/decode.products", laid_chains_decode_products)] }
def AllSaid : Prop := allRow.holds Tryz.pinned (OpenSpec.ofChange allSpec)

/-- ITS FALSE NEIGHBOUR: 'it returns false'. Refute it at one input. -/
def allWrong : ChangeSpec := { name := "all", fn := fun _ => fun
  | [d1, d2, d3, d4, d5, d6] => { results := [.lit (.bool false)], args := [d1, d2, d3, d4, d5, d6] }
  | _ => none }
def AllWrongFalsely : Prop := allRow.holds Tryz.pinned (OpenSpec.ofChange allWrong)

/-- 'chainskeep.Alike': WHATEVER THE INPUT: true; the input reads as it did. -/
def alikeSpec : ChangeSpec := { name := "alike", fn := fun _ => fun
  | [d1, d2, d3] => { results := [.lit (.bool true)], args := [d1, d2, d3] }
  | _ => none }
def alikeRow : OpenClaim := { program := "ytjikimpejlmdiaagreatdoor", sum := "6a01939f222daf61484275b8e324b4e6018336d390ca3d19c6da7dd80922d728", func := "chains/chainskeep.Alike", spec := "alike", unfollowed := true, recurses := true, named := ["chains/decode.branches", "chains/decode.loads", "chains/decode.stores", "chains/decode.immediates", "chains/decode.plain", "chains/decode.opposite", "chains/decode.products"], apart := false, laid := [("chains/decode.branches", laid_chains_decode_branches), ("chains/decode.loads", laid_chains_decode_loads), ("chains/decode.stores", laid_chains_decode_stores), ("chains/decode.immediates", laid_chains_decode_immediates), ("chains/decode.plain", laid_chains_decode_plain), ("chains/decode.opposite", laid_chains_decode_opposite), ("chains/decode.products", laid_chains_decode_products)] }
def AlikeSaid : Prop := alikeRow.holds Tryz.pinned (OpenSpec.ofChange alikeSpec)

/-- ITS FALSE NEIGHBOUR: 'it returns false'. Refute it at one input. -/
def alikeWrong : ChangeSpec := { name := "alike", fn := fun _ => fun
  | [d1, d2, d3] => { results := [.lit (.bool false)], args := [d1, d2, d3] }
  | _ => none }
def AlikeWrongFalsely : Prop := alikeRow.holds Tryz.pinned (OpenSpec.ofChange alikeWrong)

/-- 'chainskeep.Sober': WHATEVER THE INPUT: true; the input reads as it did. -/
def soberSpec : ChangeSpec := { name := "sober", fn := fun _ => fun
  | [d] => { results := [.lit (.bool true)], args := [d] }
  | _ => none }
def soberRow : OpenClaim := { program := "ytjikimpejlmdiaagreatdoor", sum := "6a01939f222daf61484275b8e324b4e6018336d390ca3d19c6da7dd80922d728", func := "chains/chainskeep.Sober", spec := "sober", unfollowed := true, recurses := true, named := ["chains/decode.branches", "chains/decode.loads", "chains/decode.stores", "chains/decode.immediates", "chains/decode.plain", "chains/decode.opposite", "chains/decode.products"], apart := false, laid := [("chains/decode.branches", laid_chains_decode_branches), ("chains/decode.loads", laid_chains_decode_loads), ("chains/decode.stores", laid_chains_decode_stores), ("chains/decode.immediates", laid_chains_decode_immediates), ("chains/decode.plain", laid_chains_decode_plain), ("chains/decode.opposite", laid_chains_decode_opposite), ("chains/decode.products", laid_chains_decode_products)] }
def SoberSaid : Prop := soberRow.holds Tryz.pinned (OpenSpec.ofChange soberSpec)

/-- ITS FALSE NEIGHBOUR: 'it returns false'. Refute it at one input. -/
def soberWrong : ChangeSpec := { name := "sober", fn := fun _ => fun
  | [d] => { results := [.lit (.bool false)], args := [d] }
  | _ => none }
def SoberWrongFalsely : Prop := soberRow.holds Tryz.pinned (OpenSpec.ofChange soberWrong)

/-- 'chainskeep.Further': WHATEVER THE INPUT: true; the input reads as it did. -/
def furtherSpec : ChangeSpec := { name := "further", fn := fun _ => fun
  | [d1, d2] => { results := [.lit (.bool true)], args := [d1, d2] }
  | _ => none }
def furtherRow : OpenClaim := { program := "ytjikimpejlmdiaagreatdoor", sum := "6a01939f222daf61484275b8e324b4e6018336d390ca3d19c6da7dd80922d728", func := "chains/chainskeep.Further", spec := "further", unfollowed := true, recurses := true, named := ["chains/decode.branches", "chains/decode.loads", "chains/decode.stores", "chains/decode.immediates", "chains/decode.plain", "chains/decode.opposite", "chains/decode.products"], apart := false, laid := [("chains/decode.branches", laid_chains_decode_branches), ("chains/decode.loads", laid_chains_decode_loads), ("chains/decode.stores", laid_chains_decode_stores), ("chains/decode.immediates", laid_chains_decode_immediates), ("chains/decode.plain", laid_chains_decode_plain), ("chains/decode.opposite", laid_chains_decode_opposite), ("chains/decode.products", laid_chains_decode_products)] }
def FurtherSaid : Prop := furtherRow.holds Tryz.pinned (OpenSpec.ofChange furtherSpec)

/-- ITS FALSE NEIGHBOUR: 'it returns false'. Refute it at one input. -/
def furtherWrong : ChangeSpec := { name := "further", fn := fun _ => fun
  | [d1, d2] => { results := [.lit (.bool false)], args := [d1, d2] }
  | _ => none }
def FurtherWrongFalsely : Prop := furtherRow.holds Tryz.pinned (OpenSpec.ofChange furtherWrong)

/-- 'chainskeep.Changed': WHATEVER THE INPUT: true; the input reads as it did. -/
def changedSpec : ChangeSpec := { name := "changed", fn := fun _ => fun
  | [d1, d2, d3] => { results := [.lit (.bool true)], args := [d1, d2, d3] }
  | _ => none }
def changedRow : OpenClaim := { program := "ytjikimpejlmdiaagreatdoor", sum := "6a01939f222daf61484275b8e324b4e6018336d390ca3d19c6da7dd80922d728", func := "chains/chainskeep.Changed", spec := "changed", unfollowed := true, recurses := true, named := ["chains/decode.branches", "chains/decode.loads", "chains/decode.stores", "chains/decode.immediates", "chains/decode.plain", "chains/decode.opposite", "chains/decode.products"], apart := false, laid := [("chains/decode.branches", laid_chains_decode_branches), ("chains/decode.loads", laid_chains_decode_loads), ("chains/decode.stores", laid_chains_decode_stores), ("chains/decode.immediates", laid_chains_decode_immediates), ("chains/decode.plain", laid_chains_decode_plain), ("chains/decode.opposite", laid_chains_decode_opposite), ("chains/decode.products", laid_chains_decode_products)] }
def ChangedSaid : Prop := changedRow.holds Tryz.pinned (OpenSpec.ofChange changedSpec)

/-- ITS FALSE NEIGHBOUR: 'it returns false'. Refute it at one input. -/
def changedWrong : ChangeSpec := { name := "changed", fn := fun _ => fun
  | [d1, d2, d3] => { results := [.lit (.bool false)], args := [d1, d2, d3] }
  | _ => none }
def ChangedWrongFalsely : Prop := changedRow.holds Tryz.pinned (OpenSpec.ofChange changedWrong)

/-- 'chainskeep.Sums': WHATEVER THE INPUT: true; the input reads as it did. -/
def sumsSpec : ChangeSpec := { name := "sums", fn := fun _ => fun
  | [d1, d2, d3] => { results := [.lit (.bool true)], args := [d1, d2, d3] }
  | _ => none }
def sumsRow : OpenClaim := { program := "ytjikimpejlmdiaagreatdoor", sum := "6a01939f222daf61484275b8e324b4e6018336d390ca3d19c6da7dd80922d728", func := "chains/chainskeep.Sums", spec := "sums", unfollowed := true, recurses := true, named := ["chains/decode.branches", "chains/decode.loads", "chains/decode.stores", "chains/decode.immediates", "chains/decode.plain", "chains/decode.opposite", "chains/decode.products"], apart := false, laid := [("chains/decode.branches", laid_chains_decode_branches), ("chains/decode.loads", laid_chains_decode_loads), ("chains/decode.stores", laid_chains_decode_stores), ("chains/decode.immediates", laid_chains_decode_immediates), ("chains/decode.plain", laid_chains_decode_plain), ("chains/decode.opposite", laid_chains_decode_opposite), ("chains/decode.products", laid_chains_decode_products)] }
def SumsSaid : Prop := sumsRow.holds Tryz.pinned (OpenSpec.ofChange sumsSpec)

/-- ITS FALSE NEIGHBOUR: 'it returns false'. Refute it at one input. -/
def sumsWrong : ChangeSpec := { name := "sums", fn := fun _ => fun
  | [d1, d2, d3] => { results := [.lit (.bool false)], args := [d1, d2, d3] }
  | _ => none }
def SumsWrongFalsely : Prop := sumsRow.holds Tryz.pinned (OpenSpec.ofChange sumsWrong)

/- THE SECOND FORM. 'bulk': how many values and letters a reading holds, each counted each time it is reached (what is shared counts as often as it is met; a slice's spare places count too). A statement '..UptoSaid' is the law's where the arguments, and the package variables that the reading takes, are together of bulk at most 1048576: NARROWER than '..Said'. Prove '..Said' where nothing that the law and all that it calls make is longer than what came in: it says more and counts as full. Else prove '..UptoSaid'. A law counts once. -/
mutual
def uptoBulk {H : Type} : DataW H → Nat
  | .lit (.string bytes) => bytes.length + 1
  | .lit _ => 1
  | .nil => 1
  | .ptr d => uptoBulk d + 1
  | .slice elems spare => uptoBulkAll elems + uptoBulkAll spare + 1
  | .agg parts => uptoBulkAll parts + 1
  | .iface _ d => uptoBulk d + 1
  | .map entries => uptoBulkEntries entries + 1
  | .held _ => 1
def uptoBulkAll {H : Type} : List (DataW H) → Nat
  | [] => 0
  | d :: r => uptoBulk d + uptoBulkAll r
def uptoBulkEntries {H : Type} : List (Lit × DataW H) → Nat
  | [] => 0
  | x :: r => uptoBulkEntry x + uptoBulkEntries r
def uptoBulkEntry {H : Type} : Lit × DataW H → Nat
  | (.string bytes, d) => bytes.length + uptoBulk d + 1
  | (_, d) => uptoBulk d + 1
 end
def uptoSmall : (H : Type) → List (DataW H) → Bool := fun _ ds => decide (uptoBulkAll ds ≤ 1048576)
def OpenSpec.upto (s : _root_.Go.ChangeSpec) : _root_.Go.OpenSpec := { _root_.Go.OpenSpec.ofChange s with cond := some uptoSmall }

/-- 'chainslaw.Interprets', WHERE WHAT IT READS IS OF BULK AT MOST 1048576: true; the input reads as it did. -/
def interpretsUptoRow : OpenClaim := { program := "ytjikimpejlmdiaagreatdoor", sum := "6a01939f222daf61484275b8e324b4e6018336d390ca3d19c6da7dd80922d728", func := "chains/chainslaw.Interprets", spec := "interprets", unfollowed := true, recurses := true, named := ["chains/decode.branches", "chains/decode.loads", "chains/decode.stores", "chains/decode.immediates", "chains/decode.plain", "chains/decode.opposite", "chains/decode.products"], apart := false, laid := [("chains/decode.branches", laid_chains_decode_branches), ("chains/decode.loads", laid_chains_decode_loads), ("chains/decode.stores", laid_chains_decode_stores), ("chains/decode.immediates", laid_chains_decode_immediates), ("chains/decode.plain", laid_chains_decode_plain), ("chains/decode.opposite", laid_chains_decode_opposite), ("chains/decode.products", laid_chains_decode_products)], narrowed := true }
def InterpretsUptoSaid : Prop := interpretsUptoRow.holds Tryz.pinned (OpenSpec.upto interpretsSpec)

/-- 'chainslaw.Runs', WHERE WHAT IT READS IS OF BULK AT MOST 1048576: true; the input reads as it did. -/
def runsUptoRow : OpenClaim := { program := "ytjikimpejlmdiaagreatdoor", sum := "6a01939f222daf61484275b8e324b4e6018336d390ca3d19c6da7dd80922d728", func := "chains/chainslaw.Runs", spec := "runs", unfollowed := true, recurses := true, named := ["chains/decode.branches", "chains/decode.loads", "chains/decode.stores", "chains/decode.immediates", "chains/decode.plain", "chains/decode.opposite", "chains/decode.products"], apart := false, laid := [("chains/decode.branches", laid_chains_decode_branches), ("chains/decode.loads", laid_chains_decode_loads), ("chains/decode.stores", laid_chains_decode_stores), ("chains/decode.immediates", laid_chains_decode_immediates), ("chains/decode.plain", laid_chains_decode_plain), ("chains/decode.opposite", laid_chains_decode_opposite), ("chains/decode.products", laid_chains_decode_products)], narrowed := true }
def RunsUptoSaid : Prop := runsUptoRow.holds Tryz.pinned (OpenSpec.upto runsSpec)

/-- 'chainslaw.Profiles', WHERE WHAT IT READS IS OF BULK AT MOST 1048576: true; the input reads as it did. -/
def profilesUptoRow : OpenClaim := { program := "ytjikimpejlmdiaagreatdoor", sum := "6a01939f222daf61484275b8e324b4e6018336d390ca3d19c6da7dd80922d728", func := "chains/chainslaw.Profiles", spec := "profiles", unfollowed := true, recurses := true, named := ["chains/decode.branches", "chains/decode.loads", "chains/decode.stores", "chains/decode.immediates", "chains/decode.plain", "chains/decode.opposite", "chains/decode.products"], apart := false, laid := [("chains/decode.branches", laid_chains_decode_branches), ("chains/decode.loads", laid_chains_decode_loads), ("chains/decode.stores", laid_chains_decode_stores), ("chains/decode.immediates", laid_chains_decode_immediates), ("chains/decode.plain", laid_chains_decode_plain), ("chains/decode.opposite", laid_chains_decode_opposite), ("chains/decode.products", laid_chains_decode_products)], narrowed := true }
def ProfilesUptoSaid : Prop := profilesUptoRow.holds Tryz.pinned (OpenSpec.upto profilesSpec)

/-- 'chainslaw.All', WHERE WHAT IT READS IS OF BULK AT MOST 1048576: true; the input reads as it did. -/
def allUptoRow : OpenClaim := { program := "ytjikimpejlmdiaagreatdoor", sum := "6a01939f222daf61484275b8e324b4e6018336d390ca3d19c6da7dd80922d728", func := "chains/chainslaw.All", spec := "all", unfollowed := true, recurses := true, named := ["chains/decode.branches", "chains/decode.loads", "chains/decode.stores", "chains/decode.immediates", "chains/decode.plain", "chains/decode.opposite", "chains/decode.products"], apart := false, laid := [("chains/decode.branches", laid_chains_decode_branches), ("chains/decode.loads", laid_chains_decode_loads), ("chains/decode.stores", laid_chains_decode_stores), ("chains/decode.immediates", laid_chains_decode_immediates), ("chains/decode.plain", laid_chains_decode_plain), ("chains/decode.opposite", laid_chains_decode_opposite), ("chains/decode.products", laid_chains_decode_products)], narrowed := true }
def AllUptoSaid : Prop := allUptoRow.holds Tryz.pinned (OpenSpec.upto allSpec)

/-- 'chainskeep.Alike', WHERE WHAT IT READS IS OF BULK AT MOST 1048576: true; the input reads as it did. -/
def alikeUptoRow : OpenClaim := { program := "ytjikimpejlmdiaagreatdoor", sum := "6a01939f222daf61484275b8e324b4e6018336d390ca3d19c6da7dd80922d728", func := "chains/chainskeep.Alike", spec := "alike", unfollowed := true, recurses := true, named := ["chains/decode.branches", "chains/decode.loads", "chains/decode.stores", "chains/decode.immediates", "chains/decode.plain", "chains/decode.opposite", "chains/decode.products"], apart := false, laid := [("chains/decode.branches", laid_chains_decode_branches), ("chains/decode.loads", laid_chains_decode_loads), ("chains/decode.stores", laid_chains_decode_stores), ("chains/decode.immediates", laid_chains_decode_immediates), ("chains/decode.plain", laid_chains_decode_plain), ("chains/decode.opposite", laid_chains_decode_opposite), ("chains/decode.products", laid_chains_decode_products)], narrowed := true }
def AlikeUptoSaid : Prop := alikeUptoRow.holds Tryz.pinned (OpenSpec.upto alikeSpec)

/-- 'chainskeep.Sober', WHERE WHAT IT READS IS OF BULK AT MOST 1048576: true; the input reads as it did. -/
def soberUptoRow : OpenClaim := { program := "ytjikimpejlmdiaagreatdoor", sum := "6a01939f222daf61484275b8e324b4e6018336d390ca3d19c6da7dd80922d728", func := "chains/chainskeep.Sober", spec := "sober", unfollowed := true, recurses := true, named := ["chains/decode.branches", "chains/decode.loads", "chains/decode.stores", "chains/decode.immediates", "chains/decode.plain", "chains/decode.opposite", "chains/decode.products"], apart := false, laid := [("chains/decode.branches", laid_chains_decode_branches), ("chains/decode.loads", laid_chains_decode_loads), ("chains/decode.stores", laid_chains_decode_stores), ("chains/decode.immediates", laid_chains_decode_immediates), ("chains/decode.plain", laid_chains_decode_plain), ("chains/decode.opposite", laid_chains_decode_opposite), ("chains/decode.products", laid_chains_decode_products)], narrowed := true }
def SoberUptoSaid : Prop := soberUptoRow.holds Tryz.pinned (OpenSpec.upto soberSpec)

/-- 'chainskeep.Further', WHERE WHAT IT READS IS OF BULK AT MOST 1048576: true; the input reads as it did. -/
def furtherUptoRow : OpenClaim := { program := "ytjikimpejlmdiaagreatdoor", sum := "6a01939f222daf61484275b8e324b4e6018336d390ca3d19c6da7dd80922d728", func := "chains/chainskeep.Further", spec := "further", unfollowed := true, recurses := true, named := ["chains/decode.branches", "chains/decode.loads", "chains/decode.stores", "chains/decode.immediates", "chains/decode.plain", "chains/decode.opposite", "chains/decode.products"], apart := false, laid := [("chains/decode.branches", laid_chains_decode_branches), ("chains/decode.loads", laid_chains_decode_loads), ("chains/decode.stores", laid_chains_decode_stores), ("chains/decode.immediates", laid_chains_decode_immediates), ("chains/decode.plain", laid_chains_decode_plain), ("chains/decode.opposite", laid_chains_decode_opposite), ("chains/decode.products", laid_chains_decode_products)], narrowed := true }
def FurtherUptoSaid : Prop := furtherUptoRow.holds Tryz.pinned (OpenSpec.upto furtherSpec)

/-- 'chainskeep.Changed', WHERE WHAT IT READS IS OF BULK AT MOST 1048576: true; the input reads as it did. -/
def changedUptoRow : OpenClaim := { program := "ytjikimpejlmdiaagreatdoor", sum := "6a01939f222daf61484275b8e324b4e6018336d390ca3d19c6da7dd80922d728", func := "chains/chainskeep.Changed", spec := "changed", unfollowed := true, recurses := true, named := ["chains/decode.branches", "chains/decode.loads", "chains/decode.stores", "chains/decode.immediates", "chains/decode.plain", "chains/decode.opposite", "chains/decode.products"], apart := false, laid := [("chains/decode.branches", laid_chains_decode_branches), ("chains/decode.loads", laid_chains_decode_loads), ("chains/decode.stores", laid_chains_decode_stores), ("chains/decode.immediates", laid_chains_decode_immediates), ("chains/decode.plain", laid_chains_decode_plain), ("chains/decode.opposite", laid_chains_decode_opposite), ("chains/decode.products", laid_chains_decode_products)], narrowed := true }
def ChangedUptoSaid : Prop := changedUptoRow.holds Tryz.pinned (OpenSpec.upto changedSpec)

/-- 'chainskeep.Sums', WHERE WHAT IT READS IS OF BULK AT MOST 1048576: true; the input reads as it did. -/
def sumsUptoRow : OpenClaim := { program := "ytjikimpejlmdiaagreatdoor", sum := "6a01939f222daf61484275b8e324b4e6018336d390ca3d19c6da7dd80922d728", func := "chains/chainskeep.Sums", spec := "sums", unfollowed := true, recurses := true, named := ["chains/decode.branches", "chains/decode.loads", "chains/decode.stores", "chains/decode.immediates", "chains/decode.plain", "chains/decode.opposite", "chains/decode.products"], apart := false, laid := [("chains/decode.branches", laid_chains_decode_branches), ("chains/decode.loads", laid_chains_decode_loads), ("chains/decode.stores", laid_chains_decode_stores), ("chains/decode.immediates", laid_chains_decode_immediates), ("chains/decode.plain", laid_chains_decode_plain), ("chains/decode.opposite", laid_chains_decode_opposite), ("chains/decode.products", laid_chains_decode_products)], narrowed := true }
def SumsUptoSaid : Prop := sumsUptoRow.holds Tryz.pinned (OpenSpec.upto sumsSpec)

end Rows
end Go.Proofs.YtjikimpejlmdiaaGreatDoor
