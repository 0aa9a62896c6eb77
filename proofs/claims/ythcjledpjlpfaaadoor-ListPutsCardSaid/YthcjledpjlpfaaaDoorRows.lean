/-
  NARROWER THAN 'FOR EVERY INPUT', by the rows' own cells (each row's printed sentence says how): ListPuts: laid · ListGets: laid · ListBack: laid · ListOwns: laid · ListLost: laid.
  DERIVED. THE GIVEN ROWS OF THIS SEAT. 5 by the template 'for every input the law returns true; each argument reads behind the call as it read before'; 0 by the template 'total and deterministic' (their statements: YthcjledpjlpfaaaDoorTotals.lean).
  GIVEN WITH THE SEED: the statements are not yours to turn. If you find one false, say at which input.
  Laid BY PROGRAM, IN A SANDBOX (cutbox-rows.mjs): the forced cells as the released guide's own fill.sh prints them over the translation ef7539f6b074c085… (all of the seat's roots in one cut). By AI agents, Wed Nov 11 2026. No macro, syntax, notation, axiom, sorry.
-/
import Derived.Test.YthcjledpjlpfaaaDoorChecked
import GoSem.Claim
import GoSem.ClaimJoined
import GoSem.ClaimMapViews
import Derived.JoinedTies
import Derived.KernelRfl
namespace Go.Proofs.YthcjledpjlpfaaaDoor
/- THE CELL 'sum', in the pinned program and in every row, IS THE sha256 OF THE DUMP (.gsa) THAT YthcjledpjlpfaaaDoorProg.lean LOADS. Nothing in Lean hashes anything: it is a label: what it is worth is what the hold of that sum in a sandbox is worth. -/
noncomputable def Tryd.pinned : Pinned := { name := "ythcjledpjlpfaaadoor", sum := "ef7539f6b074c0850a6335e8886290dfbde81ede0ba436318ab1ff11b55498a8", checked := Tryd.checked }
namespace Rows
def none {H : Type} : Left H := { results := [], args := [] }

/- WHAT THE LISTED PACKAGE-LEVEL VARIABLES READ AS WHEN THE CALL BEGINS. Each datum BY PROGRAM (the guide's laid-datum.mjs) off the statement by which the dump's own 'gosem.cut.vars' lays the variable. In a bare row this is a premise. The card (YthcjledpjlpfaaaDoorCards.lean) ties it to the program's text. -/
def laid_jalousie_crc_effect {H : Type} : DataW H := .agg [.lit (.int .u32 0), .lit (.int .u32 498536548), .lit (.int .u32 997073096), .lit (.int .u32 651767980), .lit (.int .u32 1994146192), .lit (.int .u32 1802195444), .lit (.int .u32 1303535960), .lit (.int .u32 1342533948), .lit (.int .u32 3988292384), .lit (.int .u32 4027552580), .lit (.int .u32 3604390888), .lit (.int .u32 3412177804), .lit (.int .u32 2607071920), .lit (.int .u32 2262029012), .lit (.int .u32 2685067896), .lit (.int .u32 3183342108)]

/-- 'jalousielaw11.ListPuts': WHATEVER THE INPUT: true; the input reads as it did. -/
def listPutsSpec : ChangeSpec := { name := "listPuts", fn := fun _ => fun
  | [d1, d2, d3] => { results := [.lit (.bool true)], args := [d1, d2, d3] }
  | _ => none }
def listPutsRow : OpenClaim := { program := "ythcjledpjlpfaaadoor", sum := "ef7539f6b074c0850a6335e8886290dfbde81ede0ba436318ab1ff11b55498a8", func := "jalousie/jalousielaw11.ListPuts", spec := "listPuts", unfollowed := true, recurses := true, named := ["jalousie/crc.effect"], apart := false, laid := [("jalousie/crc.effect", laid_jalousie_crc_effect)] }
def ListPutsSaid : Prop := listPutsRow.holds Tryd.pinned (OpenSpec.ofChange listPutsSpec)

/-- ITS FALSE NEIGHBOUR: 'it returns false'. Refute it at one input. -/
def listPutsWrong : ChangeSpec := { name := "listPuts", fn := fun _ => fun
  | [d1, d2, d3] => { results := [.lit (.bool false)], args := [d1, d2, d3] }
  | _ => none }
def ListPutsWrongFalsely : Prop := listPutsRow.holds Tryd.pinned (OpenSpec.ofChange listPutsWrong)

/-- 'jalousielaw11.ListGets': WHATEVER THE INPUT: true; the input reads as it did. -/
def listGetsSpec : ChangeSpec := { name := "listGets", fn := fun _ => fun
  | [d1, d2] => { results := [.lit (.bool true)], args := [d1, d2] }
  | _ => none }
def listGetsRow : OpenClaim := { program := "ythcjledpjlpfaaadoor", sum := "ef7539f6b074c0850a6335e8886290dfbde81ede0ba436318ab1ff11b55498a8", func := "jalousie/jalousielaw11.ListGets", spec := "listGets", unfollowed := true, recurses := true, named := ["jalousie/crc.effect"], apart := false, laid := [("jalousie/crc.effect", laid_jalousie_crc_effect)] }
def ListGetsSaid : Prop := listGetsRow.holds Tryd.pinned (OpenSpec.ofChange listGetsSpec)

/-- ITS FALSE NEIGHBOUR: 'it returns false'. Refute it at one input. -/
def listGetsWrong : ChangeSpec := { name := "listGets", fn := fun _ => fun
  | [d1, d2] => { results := [.lit (.bool false)], args := [d1, d2] }
  | _ => none }
def ListGetsWrongFalsely : Prop := listGetsRow.holds Tryd.pinned (OpenSpec.ofChange listGetsWrong)

/-- 'jalousielaw11.ListBack': WHATEVER THE INPUT: true; the input reads as it did. -/
def listBackSpec : ChangeSpec := { name := "listBack", fn := fun _ => fun
  | [d1, d2] => { results := [.lit (.bool true)], args := [d1, d2] }
  | _ => none }
def listBackRow : OpenClaim := { program := "ythcjledpjlpfaaadoor", sum := "ef7539f6b074c0850a6335e8886290dfbde81ede0ba436318ab1ff11b55498a8", func := "jalousie/jalousielaw11.ListBack", spec := "listBack", unfollowed := true, recurses := true, named := ["jalousie/crc.effect"], apart := false, laid := [("jalousie/crc.effect", laid_jalousie_crc_effect)] }
def ListBackSaid : Prop := listBackRow.holds Tryd.pinned (OpenSpec.ofChange listBackSpec)

/-- ITS FALSE NEIGHBOUR: 'it returns false'. Refute it at one input. -/
def listBackWrong : ChangeSpec := { name := "listBack", fn := fun _ => fun
  | [d1, d2] => { results := [.lit (.bool false)], args := [d1, d2] }
  | _ => none }
def ListBackWrongFalsely : Prop := listBackRow.holds Tryd.pinned (OpenSpec.ofChange listBackWrong)

/-- 'jalousielaw11.ListOwns': WHATEVER THE INPUT: true; the input reads as it did. -/
def listOwnsSpec : ChangeSpec := { name := "listOwns", fn := fun _ => fun
  | [d1, d2] => { results := [.lit (.bool true)], args := [d1, d2] }
  | _ => none }
def listOwnsRow : OpenClaim := { program := "ythcjledpjlpfaaadoor", sum := "ef7539f6b074c0850a6335e8886290dfbde81ede0ba436318ab1ff11b55498a8", func := "jalousie/jalousielaw11.ListOwns", spec := "listOwns", unfollowed := true, recurses := true, named := ["jalousie/crc.effect"], apart := false, laid := [("jalousie/crc.effect", laid_jalousie_crc_effect)] }
def ListOwnsSaid : Prop := listOwnsRow.holds Tryd.pinned (OpenSpec.ofChange listOwnsSpec)

/-- ITS FALSE NEIGHBOUR: 'it returns false'. Refute it at one input. -/
def listOwnsWrong : ChangeSpec := { name := "listOwns", fn := fun _ => fun
  | [d1, d2] => { results := [.lit (.bool false)], args := [d1, d2] }
  | _ => none }
def ListOwnsWrongFalsely : Prop := listOwnsRow.holds Tryd.pinned (OpenSpec.ofChange listOwnsWrong)

/-- 'jalousielaw11.ListLost': WHATEVER THE INPUT: true; the input reads as it did. -/
def listLostSpec : ChangeSpec := { name := "listLost", fn := fun _ => fun
  | [d1, d2, d3] => { results := [.lit (.bool true)], args := [d1, d2, d3] }
  | _ => none }
def listLostRow : OpenClaim := { program := "ythcjledpjlpfaaadoor", sum := "ef7539f6b074c0850a6335e8886290dfbde81ede0ba436318ab1ff11b55498a8", func := "jalousie/jalousielaw11.ListLost", spec := "listLost", unfollowed := true, recurses := true, named := ["jalousie/crc.effect"], apart := false, laid := [("jalousie/crc.effect", laid_jalousie_crc_effect)] }
def ListLostSaid : Prop := listLostRow.holds Tryd.pinned (OpenSpec.ofChange listLostSpec)

/-- ITS FALSE NEIGHBOUR: 'it returns false'. Refute it at one input. -/
def listLostWrong : ChangeSpec := { name := "listLost", fn := fun _ => fun
  | [d1, d2, d3] => { results := [.lit (.bool false)], args := [d1, d2, d3] }
  | _ => none }
def ListLostWrongFalsely : Prop := listLostRow.holds Tryd.pinned (OpenSpec.ofChange listLostWrong)

/- THE SECOND FORM. 'bulk': how many values and letters a reading holds, each counted each time it is reached (what is shared counts as often as it is met; a slice's spare places count too). A statement '..UptoSaid' is the law's where the arguments, and the package variables that the reading takes, are together of bulk at most 1048576: NARROWER than '..Said'. Prove '..Said' where nothing that the law and all that it calls make is longer than what came in: it says more and counts as full. Else prove '..UptoSaid'. A law counts once. -/
mutual
def uptoBulk {H : Type} : DataW H → Nat
  | .lit (.string bytes) => bytes.length + 1
  | .lit _ => 1
  | .nil => 1
  | .ptr d => uptoBulk d + 1
  | .slice elems spare => uptoBulkAll elems + uptoBulkAll spare + 1
  | .agg parts => uptoBulkAll parts + 1
  | .iface _ d => uptoBulk d + 1
  | .map entries => uptoBulkEntries entries + 1
  | .held _ => 1
def uptoBulkAll {H : Type} : List (DataW H) → Nat
  | [] => 0
  | d :: r => uptoBulk d + uptoBulkAll r
def uptoBulkEntries {H : Type} : List (Lit × DataW H) → Nat
  | [] => 0
  | x :: r => uptoBulkEntry x + uptoBulkEntries r
def uptoBulkEntry {H : Type} : Lit × DataW H → Nat
  | (.string bytes, d) => bytes.length + uptoBulk d + 1
  | (_, d) => uptoBulk d + 1
 end
def uptoSmall : (H : Type) → List (DataW H) → Bool := fun _ ds => decide (uptoBulkAll ds ≤ 1048576)
def OpenSpec.upto (s : _root_.Go.ChangeSpec) : _root_.Go.OpenSpec := { _root_.Go.OpenSpec.ofChange s with cond := some uptoSmall }

/-- 'jalousielaw11.ListPuts', WHERE WHAT IT READS IS OF BULK AT MOST 1048576: true; the input reads as it did. -/
def listPutsUptoRow : OpenClaim := { program := "ythcjledpjlpfaaadoor", sum := "ef7539f6b074c0850a6335e8886290dfbde81ede0ba436318ab1ff11b55498a8", func := "jalousie/jalousielaw11.ListPuts", spec := "listPuts", unfollowed := true, recurses := true, named := ["jalousie/crc.effect"], apart := false, laid := [("jalousie/crc.effect", laid_jalousie_crc_effect)], narrowed := true }
def ListPutsUptoSaid : Prop := listPutsUptoRow.holds Tryd.pinned (OpenSpec.upto listPutsSpec)

/-- 'jalousielaw11.ListGets', WHERE WHAT IT READS IS OF BULK AT MOST 1048576: true; the input reads as it did. -/
def listGetsUptoRow : OpenClaim := { program := "ythcjledpjlpfaaadoor", sum := "ef7539f6b074c0850a6335e8886290dfbde81ede0ba436318ab1ff11b55498a8", func := "jalousie/jalousielaw11.ListGets", spec := "listGets", unfollowed := true, recurses := true, named := ["jalousie/crc.effect"], apart := false, laid := [("jalousie/crc.effect", laid_jalousie_crc_effect)], narrowed := true }
def ListGetsUptoSaid : Prop := listGetsUptoRow.holds Tryd.pinned (OpenSpec.upto listGetsSpec)

/-- 'jalousielaw11.ListBack', WHERE WHAT IT READS IS OF BULK AT MOST 1048576: true; the input reads as it did. -/
def listBackUptoRow : OpenClaim := { program := "ythcjledpjlpfaaadoor", sum := "ef7539f6b074c0850a6335e8886290dfbde81ede0ba436318ab1ff11b55498a8", func := "jalousie/jalousielaw11.ListBack", spec := "listBack", unfollowed := true, recurses := true, named := ["jalousie/crc.effect"], apart := false, laid := [("jalousie/crc.effect", laid_jalousie_crc_effect)], narrowed := true }
def ListBackUptoSaid : Prop := listBackUptoRow.holds Tryd.pinned (OpenSpec.upto listBackSpec)

/-- 'jalousielaw11.ListOwns', WHERE WHAT IT READS IS OF BULK AT MOST 1048576: true; the input reads as it did. -/
def listOwnsUptoRow : OpenClaim := { program := "ythcjledpjlpfaaadoor", sum := "ef7539f6b074c0850a6335e8886290dfbde81ede0ba436318ab1ff11b55498a8", func := "jalousie/jalousielaw11.ListOwns", spec := "listOwns", unfollowed := true, recurses := true, named := ["jalousie/crc.effect"], apart := false, laid := [("jalousie/crc.effect", laid_jalousie_crc_effect)], narrowed := true }
def ListOwnsUptoSaid : Prop := listOwnsUptoRow.holds Tryd.pinned (OpenSpec.upto listOwnsSpec)

/-- 'jalousielaw11.ListLost', WHERE WHAT IT READS IS OF BULK AT MOST 1048576: true; the input reads as it did. -/
def listLostUptoRow : OpenClaim := { program := "ythcjledpjlpfaaadoor", sum := "ef7539f6b074c0850a6335e8886290dfbde81ede0ba436318ab1ff11b55498a8", func := "jalousie/jalousielaw11.ListLost", spec := "listLost", unfollowed := true, recurses := true, named := ["jalousie/crc.effect"], apart := false, laid := [("jalousie/crc.effect", laid_jalousie_crc_effect)], narrowed := true }
def ListLostUptoSaid : Prop := listLostUptoRow.holds Tryd.pinned (OpenSpec.upto listLostSpec)

end Rows
end Go.Proofs.YthcjledpjlpfaaaDoor
