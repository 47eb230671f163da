/-
  DERIVED. GIVEN WITH THE SEED: THE PROGRAM's TIES (one call each: nine closed facts by the kernel) AND EACH ROW's TIE, after the 31st guide's Derived/Test/Toyas{Tie, Card}.lean. No idea stands in it: it is a product of the set-up. Laid BY PROGRAM, IN A SANDBOX (cutbox-door.mjs). By AI agents, Wed Nov 11 2026. No macro, syntax, notation, axiom, sorry.
-/
import Derived.Test.YtjikimpejlmdiaaDoorRows
import Derived.LaidByTextLater
import Derived.SevenTiedAt
import Derived.LaidSub
import Derived.LaidOnce
namespace Go.Proofs.YtjikimpejlmdiaaDoor
open Go
set_option maxRecDepth 100000
theorem seatTie1 : Tryd.prog.laidByTextLater [("chains/decode.branches", Rows.laid_chains_decode_branches), ("chains/decode.loads", Rows.laid_chains_decode_loads), ("chains/decode.stores", Rows.laid_chains_decode_stores), ("chains/decode.immediates", Rows.laid_chains_decode_immediates), ("chains/decode.plain", Rows.laid_chains_decode_plain), ("chains/decode.opposite", Rows.laid_chains_decode_opposite), ("chains/decode.products", Rows.laid_chains_decode_products)] [.data, .data, .data, .data, .data, .data, .data] true :=
  Program.laidByTextLater_by_one 44 8 9 (by kernel_rfl) (by kernel_rfl) (by kernel_rfl) (by kernel_rfl) (by kernel_rfl) (by kernel_rfl) (fun _ _ => by kernel_rfl)
theorem noOwnUnsafe : Tryd.pinned.checked.prog.headLifts.contains "ownunsafe" = false := by kernel_rfl
theorem tie : Tryd.prog.laidByTextLater [("chains/decode.branches", Rows.laid_chains_decode_branches), ("chains/decode.loads", Rows.laid_chains_decode_loads), ("chains/decode.stores", Rows.laid_chains_decode_stores), ("chains/decode.immediates", Rows.laid_chains_decode_immediates), ("chains/decode.plain", Rows.laid_chains_decode_plain), ("chains/decode.opposite", Rows.laid_chains_decode_opposite), ("chains/decode.products", Rows.laid_chains_decode_products)] [.data, .data, .data, .data, .data, .data, .data] true :=
  Program.laidByTextLater.sub seatTie1 ["chains/decode.branches", "chains/decode.loads", "chains/decode.stores", "chains/decode.immediates", "chains/decode.plain", "chains/decode.opposite", "chains/decode.products"] (by kernel_rfl) (by kernel_rfl)
theorem decodes_row_tie : Rows.decodesRow.laidByTextAt .later Tryd.pinned [.data, .data, .data, .data, .data, .data, .data] true :=
  OpenClaim.laidByTextAt_later rfl rfl tie noOwnUnsafe
theorem decodesUpto_row_tie : Rows.decodesUptoRow.laidByTextAt .later Tryd.pinned [.data, .data, .data, .data, .data, .data, .data] true :=
  OpenClaim.laidByTextAt_later rfl rfl tie noOwnUnsafe
end Go.Proofs.YtjikimpejlmdiaaDoor
