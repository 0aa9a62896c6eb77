/-
  NARROWER THAN 'FOR EVERY INPUT', by the rows' own cells (each row's printed sentence says how): ChainPuts: laid · ChainGets: laid · ChainBack: laid · ChainParts: laid · ChainLost: laid.
  DERIVED. THE GIVEN ROWS OF THIS SEAT. 5 by the template 'for every input the law returns true; each argument reads behind the call as it read before'; 0 by the template 'total and deterministic' (their statements: YtdoabcbembinjaaDoorTotals.lean).
  GIVEN WITH THE SEED: the statements are not yours to turn. If you find one false, say at which input.
  Laid BY PROGRAM, IN A SANDBOX (cutbox-rows.mjs): the forced cells as the released guide's own fill.sh prints them over the translation 0f37643d26a25c15… (all of the seat's roots in one cut). By AI agents, Wed Nov 11 2026. No macro, syntax, notation, axiom, sorry.
-/
import Derived.Test.YtdoabcbembinjaaDoorChecked
import GoSem.Claim
import GoSem.ClaimJoined
import GoSem.ClaimMapViews
import Derived.JoinedTies
import Derived.KernelRfl
namespace Go.Proofs.YtdoabcbembinjaaDoor
/- THE CELL 'sum', in the pinned program and in every row, IS THE sha256 OF THE DUMP (.gsa) THAT YtdoabcbembinjaaDoorProg.lean LOADS. Nothing in Lean hashes anything: it is a label: what it is worth is what the hold of that sum in a sandbox is worth. -/
noncomputable def Tryd.pinned : Pinned := { name := "ytdoabcbembinjaadoor", sum := "0f37643d26a25c159293fc2390e9a650f311ac68d1936c24d95252cd4b623091", checked := Tryd.checked }
namespace Rows
def none {H : Type} : Left H := { results := [], args := [] }

/- WHAT THE LISTED PACKAGE-LEVEL VARIABLES READ AS WHEN THE CALL BEGINS. Each datum BY PROGRAM (the guide's laid-datum.mjs) off the statement by which the dump's own 'gosem.cut.vars' lays the variable. In a bare row this is a premise. The card (YtdoabcbembinjaaDoorCards.lean) ties it to the program's text. -/
def laid_jalousie_crc_effect {H : Type} : DataW H := .agg [.lit (.int .u32 0), .lit (.int .u32 498536548), .lit (.int .u32 997073096), .lit (.int .u32 651767980), .lit (.int .u32 1994146192), .lit (.int .u32 1802195444), .lit (.int .u32 1303535960), .lit (.int .u32 1342533948), .lit (.int .u32 3988292384), .lit (.int .u32 4027552580), .lit (.int .u32 3604390888), .lit (.int .u32 3412177804), .lit (.int .u32 2607071920), .lit (.int .u32 2262029012), .lit (.int .u32 2685067896), .lit (.int .u32 3183342108)]

/-- 'jalousielaw09.ChainPuts': WHATEVER THE INPUT: true; the input reads as it did. -/
def chainPutsSpec : ChangeSpec := { name := "chainPuts", fn := fun _ => fun
  | [d1, d2, d3] => { results := [.lit (.bool true)], args := [d1, d2, d3] }
  | _ => none }
def chainPutsRow : OpenClaim := { program := "ytdoabcbembinjaadoor", sum := "0f37643d26a25c159293fc2390e9a650f311ac68d1936c24d95252cd4b623091", func := "jalousie/jalousielaw09.ChainPuts", spec := "chainPuts", unfollowed := true, recurses := true, named := ["jalousie/crc.effect"], apart := false, laid := [("jalousie/crc.effect", laid_jalousie_crc_effect)] }
def ChainPutsSaid : Prop := chainPutsRow.holds Tryd.pinned (OpenSpec.ofChange chainPutsSpec)

/-- ITS FALSE NEIGHBOUR: 'it returns false'. Refute it at one input. -/
def chainPutsWrong : ChangeSpec := { name := "chainPuts", fn := fun _ => fun
  | [d1, d2, d3] => { results := [.lit (.bool false)], args := [d1, d2, d3] }
  | _ => none }
def ChainPutsWrongFalsely : Prop := chainPutsRow.holds Tryd.pinned (OpenSpec.ofChange chainPutsWrong)

/-- 'jalousielaw09.ChainGets': WHATEVER THE INPUT: true; the input reads as it did. -/
def chainGetsSpec : ChangeSpec := { name := "chainGets", fn := fun _ => fun
  | [d1, d2, d3] => { results := [.lit (.bool true)], args := [d1, d2, d3] }
  | _ => none }
def chainGetsRow : OpenClaim := { program := "ytdoabcbembinjaadoor", sum := "0f37643d26a25c159293fc2390e9a650f311ac68d1936c24d95252cd4b623091", func := "jalousie/jalousielaw09.ChainGets", spec := "chainGets", unfollowed := true, recurses := true, named := ["jalousie/crc.effect"], apart := false, laid := [("jalousie/crc.effect", laid_jalousie_crc_effect)] }
def ChainGetsSaid : Prop := chainGetsRow.holds Tryd.pinned (OpenSpec.ofChange chainGetsSpec)

/-- ITS FALSE NEIGHBOUR: 'it returns false'. Refute it at one input. -/
def chainGetsWrong : ChangeSpec := { name := "chainGets", fn := fun _ => fun
  | [d1, d2, d3] => { results := [.lit (.bool false)], args := [d1, d2, d3] }
  | _ => none }
def ChainGetsWrongFalsely : Prop := chainGetsRow.holds Tryd.pinned (OpenSpec.ofChange chainGetsWrong)

/-- 'jalousielaw09.ChainBack': WHATEVER THE INPUT: true; the input reads as it did. -/
def chainBackSpec : ChangeSpec := { name := "chainBack", fn := fun _ => fun
  | [d1, d2, d3] => { results := [.lit (.bool true)], args := [d1, d2, d3] }
  | _ => none }
def chainBackRow : OpenClaim := { program := "ytdoabcbembinjaadoor", sum := "0f37643d26a25c159293fc2390e9a650f311ac68d1936c24d95252cd4b623091", func := "jalousie/jalousielaw09.ChainBack", spec := "chainBack", unfollowed := true, recurses := true, named := ["jalousie/crc.effect"], apart := false, laid := [("jalousie/crc.effect", laid_jalousie_crc_effect)] }
def ChainBackSaid : Prop := chainBackRow.holds Tryd.pinned (OpenSpec.ofChange chainBackSpec)

/-- ITS FALSE NEIGHBOUR: 'it returns false'. Refute it at one input. -/
def chainBackWrong : ChangeSpec := { name := "chainBack", fn := fun _ => fun
  | [d1, d2, d3] => { results := [.lit (.bool false)], args := [d1, d2, d3] }
  | _ => none }
def ChainBackWrongFalsely : Prop := chainBackRow.holds Tryd.pinned (OpenSpec.ofChange chainBackWrong)

/-- 'jalousielaw09.ChainParts': WHATEVER THE INPUT: true; the input reads as it did. -/
def chainPartsSpec : ChangeSpec := { name := "chainParts", fn := fun _ => fun
  | [d1, d2] => { results := [.lit (.bool true)], args := [d1, d2] }
  | _ => none }
def chainPartsRow : OpenClaim := { program := "ytdoabcbembinjaadoor", sum := "0f37643d26a25c159293fc2390e9a650f311ac68d1936c24d95252cd4b623091", func := "jalousie/jalousielaw09.ChainParts", spec := "chainParts", unfollowed := true, recurses := true, named := ["jalousie/crc.effect"], apart := false, laid := [("jalousie/crc.effect", laid_jalousie_crc_effect)] }
def ChainPartsSaid : Prop := chainPartsRow.holds Tryd.pinned (OpenSpec.ofChange chainPartsSpec)

/-- ITS FALSE NEIGHBOUR: 'it returns false'. Refute it at one input. -/
def chainPartsWrong : ChangeSpec := { name := "chainParts", fn := fun _ => fun
  | [d1, d2] => { results := [.lit (.bool false)], args := [d1, d2] }
  | _ => none }
def ChainPartsWrongFalsely : Prop := chainPartsRow.holds Tryd.pinned (OpenSpec.ofChange chainPartsWrong)

/-- 'jalousielaw09.ChainLost': WHATEVER THE INPUT: true; the input reads as it did. -/
def chainLostSpec : ChangeSpec := { name := "chainLost", fn := fun _ => fun
  | [d1, d2, d3] => { results := [.lit (.bool true)], args := [d1, d2, d3] }
  | _ => none }
def chainLostRow : OpenClaim := { program := "ytdoabcbembinjaadoor", sum := "0f37643d26a25c159293fc2390e9a650f311ac68d1936c24d95252cd4b623091", func := "jalousie/jalousielaw09.ChainLost", spec := "chainLost", unfollowed := true, recurses := true, named := ["jalousie/crc.effect"], apart := false, laid := [("jalousie/crc.effect", laid_jalousie_crc_effect)] }
def ChainLostSaid : Prop := chainLostRow.holds Tryd.pinned (OpenSpec.ofChange chainLostSpec)

/-- ITS FALSE NEIGHBOUR: 'it returns false'. Refute it at one input. -/
def chainLostWrong : ChangeSpec := { name := "chainLost", fn := fun _ => fun
  | [d1, d2, d3] => { results := [.lit (.bool false)], args := [d1, d2, d3] }
  | _ => none }
def ChainLostWrongFalsely : Prop := chainLostRow.holds Tryd.pinned (OpenSpec.ofChange chainLostWrong)

/- THE SECOND FORM. 'bulk': how many values and letters a reading holds, each counted each time it is reached (what is shared counts as often as it is met; a slice's spare places count too). A statement '..UptoSaid' is the law's where the arguments, and the package variables that the reading takes, are together of bulk at most 1048576: NARROWER than '..Said'. Prove '..Said' where nothing that the law and all that it calls make is longer than what came in: it says more and counts as full. Else prove '..UptoSaid'. A law counts once. -/
mutual
def uptoBulk {H : Type} : DataW H → Nat
  | .lit (.string bytes) => bytes.length + 1
  | .lit _ => 1
  | .nil => 1
  | .ptr d => uptoBulk d + 1
  | .slice elems spare => uptoBulkAll elems + uptoBulkAll spare + 1
  | .agg parts => uptoBulkAll parts + 1
  | .iface _ d => uptoBulk d + 1
  | .map entries => uptoBulkEntries entries + 1
  | .held _ => 1
def uptoBulkAll {H : Type} : List (DataW H) → Nat
  | [] => 0
  | d :: r => uptoBulk d + uptoBulkAll r
def uptoBulkEntries {H : Type} : List (Lit × DataW H) → Nat
  | [] => 0
  | x :: r => uptoBulkEntry x + uptoBulkEntries r
def uptoBulkEntry {H : Type} : Lit × DataW H → Nat
  | (.string bytes, d) => bytes.length + uptoBulk d + 1
  | (_, d) => uptoBulk d + 1
 end
def uptoSmall : (H : Type) → List (DataW H) → Bool := fun _ ds => decide (uptoBulkAll ds ≤ 1048576)
def OpenSpec.upto (s : _root_.Go.ChangeSpec) : _root_.Go.OpenSpec := { _root_.Go.OpenSpec.ofChange s with cond := some uptoSmall }

/-- 'jalousielaw09.ChainPuts', WHERE WHAT IT READS IS OF BULK AT MOST 1048576: true; the input reads as it did. -/
def chainPutsUptoRow : OpenClaim := { program := "ytdoabcbembinjaadoor", sum := "0f37643d26a25c159293fc2390e9a650f311ac68d1936c24d95252cd4b623091", func := "jalousie/jalousielaw09.ChainPuts", spec := "chainPuts", unfollowed := true, recurses := true, named := ["jalousie/crc.effect"], apart := false, laid := [("jalousie/crc.effect", laid_jalousie_crc_effect)], narrowed := true }
def ChainPutsUptoSaid : Prop := chainPutsUptoRow.holds Tryd.pinned (OpenSpec.upto chainPutsSpec)

/-- 'jalousielaw09.ChainGets', WHERE WHAT IT READS IS OF BULK AT MOST 1048576: true; the input reads as it did. -/
def chainGetsUptoRow : OpenClaim := { program := "ytdoabcbembinjaadoor", sum := "0f37643d26a25c159293fc2390e9a650f311ac68d1936c24d95252cd4b623091", func := "jalousie/jalousielaw09.ChainGets", spec := "chainGets", unfollowed := true, recurses := true, named := ["jalousie/crc.effect"], apart := false, laid := [("jalousie/crc.effect", laid_jalousie_crc_effect)], narrowed := true }
def ChainGetsUptoSaid : Prop := chainGetsUptoRow.holds Tryd.pinned (OpenSpec.upto chainGetsSpec)

/-- 'jalousielaw09.ChainBack', WHERE WHAT IT READS IS OF BULK AT MOST 1048576: true; the input reads as it did. -/
def chainBackUptoRow : OpenClaim := { program := "ytdoabcbembinjaadoor", sum := "0f37643d26a25c159293fc2390e9a650f311ac68d1936c24d95252cd4b623091", func := "jalousie/jalousielaw09.ChainBack", spec := "chainBack", unfollowed := true, recurses := true, named := ["jalousie/crc.effect"], apart := false, laid := [("jalousie/crc.effect", laid_jalousie_crc_effect)], narrowed := true }
def ChainBackUptoSaid : Prop := chainBackUptoRow.holds Tryd.pinned (OpenSpec.upto chainBackSpec)

/-- 'jalousielaw09.ChainParts', WHERE WHAT IT READS IS OF BULK AT MOST 1048576: true; the input reads as it did. -/
def chainPartsUptoRow : OpenClaim := { program := "ytdoabcbembinjaadoor", sum := "0f37643d26a25c159293fc2390e9a650f311ac68d1936c24d95252cd4b623091", func := "jalousie/jalousielaw09.ChainParts", spec := "chainParts", unfollowed := true, recurses := true, named := ["jalousie/crc.effect"], apart := false, laid := [("jalousie/crc.effect", laid_jalousie_crc_effect)], narrowed := true }
def ChainPartsUptoSaid : Prop := chainPartsUptoRow.holds Tryd.pinned (OpenSpec.upto chainPartsSpec)

/-- 'jalousielaw09.ChainLost', WHERE WHAT IT READS IS OF BULK AT MOST 1048576: true; the input reads as it did. -/
def chainLostUptoRow : OpenClaim := { program := "ytdoabcbembinjaadoor", sum := "0f37643d26a25c159293fc2390e9a650f311ac68d1936c24d95252cd4b623091", func := "jalousie/jalousielaw09.ChainLost", spec := "chainLost", unfollowed := true, recurses := true, named := ["jalousie/crc.effect"], apart := false, laid := [("jalousie/crc.effect", laid_jalousie_crc_effect)], narrowed := true }
def ChainLostUptoSaid : Prop := chainLostUptoRow.holds Tryd.pinned (OpenSpec.upto chainLostSpec)

end Rows
end Go.Proofs.YtdoabcbembinjaaDoor
