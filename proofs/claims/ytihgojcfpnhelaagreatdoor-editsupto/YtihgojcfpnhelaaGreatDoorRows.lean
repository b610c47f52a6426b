/-
  NARROWER THAN 'FOR EVERY INPUT', by the rows' own cells (each row's printed sentence says how): Edits: laid · Plain: laid · Known: laid · Round: laid · Ring: laid · Fresh: laid · Renamed: laid · Undos: laid · Back: laid · All: laid · Group: laid.
  DERIVED. THE GIVEN ROWS OF THIS SEAT. 11 by the template 'for every input the law returns true; each argument reads behind the call as it read before'; 0 by the template 'total and deterministic' (their statements: YtihgojcfpnhelaaGreatDoorTotals.lean).
  GIVEN WITH THE SEED: the statements are not yours to turn. If you find one false, say at which input.
  Laid BY PROGRAM, IN A SANDBOX (cutbox-rows.mjs): the forced cells as the released guide's own fill.sh prints them over the translation 9ab7c9af9685a036… (all of the seat's roots in one cut). By AI agents, Wed Nov 11 2026. No macro, syntax, notation, axiom, sorry.
-/
import Derived.Test.YtihgojcfpnhelaaGreatDoorChecked
import GoSem.Claim
import GoSem.ClaimJoined
import GoSem.ClaimMapViews
import Derived.JoinedTies
import Derived.KernelRfl
namespace Go.Proofs.YtihgojcfpnhelaaGreatDoor
/- THE CELL 'sum', in the pinned program and in every row, IS THE sha256 OF THE DUMP (.gsa) THAT YtihgojcfpnhelaaGreatDoorProg.lean LOADS. Nothing in Lean hashes anything: it is a label: what it is worth is what the hold of that sum in a sandbox is worth. -/
noncomputable def Tryz.pinned : Pinned := { name := "ytihgojcfpnhelaagreatdoor", sum := "9ab7c9af9685a0363b0bb40eb991c1ac8386677cd9dc0a7672e6bc4ba0158d26", checked := Tryz.checked }
namespace Rows
def none {H : Type} : Left H := { results := [], args := [] }

/- WHAT THE LISTED PACKAGE-LEVEL VARIABLES READ AS WHEN THE CALL BEGINS. Each datum BY PROGRAM (the guide's laid-datum.mjs) off the statement by which the dump's own 'gosem.cut.vars' lays the variable. In a bare row this is a premise. The card (YtihgojcfpnhelaaGreatDoorCards.lean) ties it to the program's text. -/
def laid_math_bits_deBruijn32tab {H : Type} : DataW H := .agg [.lit (.int .u8 0), .lit (.int .u8 1), .lit (.int .u8 28), .lit (.int .u8 2), .lit (.int .u8 29), .lit (.int .u8 14), .lit (.int .u8 24), .lit (.int .u8 3), .lit (.int .u8 30), .lit (.int .u8 22), .lit (.int .u8 20), .lit (.int .u8 15), .lit (.int .u8 25), .lit (.int .u8 17), .lit (.int .u8 4), .lit (.int .u8 8), .lit (.int .u8 31), .lit (.int .u8 27), .lit (.int .u8 13), .lit (.int .u8 23), .lit (.int .u8 21), .lit (.int .u8 19), .lit (.int .u8 16), .lit (.int .u8 7), .lit (.int .u8 26), .lit (.int .u8 12), .lit (.int .u8 18), .lit (.int .u8 6), .lit (.int .u8 11), .lit (.int .u8 5), .lit (.int .u8 10), .lit (.int .u8 9)]
def laid_math_bits_deBruijn64tab {H : Type} : DataW H := .agg [.lit (.int .u8 0), .lit (.int .u8 1), .lit (.int .u8 56), .lit (.int .u8 2), .lit (.int .u8 57), .lit (.int .u8 49), .lit (.int .u8 28), .lit (.int .u8 3), .lit (.int .u8 61), .lit (.int .u8 58), .lit (.int .u8 42), .lit (.int .u8 50), .lit (.int .u8 38), .lit (.int .u8 29), .lit (.int .u8 17), .lit (.int .u8 4), .lit (.int .u8 62), .lit (.int .u8 47), .lit (.int .u8 59), .lit (.int .u8 36), .lit (.int .u8 45), .lit (.int .u8 43), .lit (.int .u8 51), .lit (.int .u8 22), .lit (.int .u8 53), .lit (.int .u8 39), .lit (.int .u8 33), .lit (.int .u8 30), .lit (.int .u8 24), .lit (.int .u8 18), .lit (.int .u8 12), .lit (.int .u8 5), .lit (.int .u8 63), .lit (.int .u8 55), .lit (.int .u8 48), .lit (.int .u8 27), .lit (.int .u8 60), .lit (.int .u8 41), .lit (.int .u8 37), .lit (.int .u8 16), .lit (.int .u8 46), .lit (.int .u8 35), .lit (.int .u8 44), .lit (.int .u8 21), .lit (.int .u8 52), .lit (.int .u8 32), .lit (.int .u8 23), .lit (.int .u8 11), .lit (.int .u8 54), .lit (.int .u8 26), .lit (.int .u8 40), .lit (.int .u8 15), .lit (.int .u8 34), .lit (.int .u8 20), .lit (.int .u8 31), .lit (.int .u8 10), .lit (.int .u8 25), .lit (.int .u8 14), .lit (.int .u8 19), .lit (.int .u8 9), .lit (.int .u8 13), .lit (.int .u8 8), .lit (.int .u8 7), .lit (.int .u8 6)]
def laid_internal_strconv_uint64pow10 {H : Type} : DataW H := .agg [.lit (.int .u64 1), .lit (.int .u64 10), .lit (.int .u64 100), .lit (.int .u64 1000), .lit (.int .u64 10000), .lit (.int .u64 100000), .lit (.int .u64 1000000), .lit (.int .u64 10000000), .lit (.int .u64 100000000), .lit (.int .u64 1000000000), .lit (.int .u64 10000000000), .lit (.int .u64 100000000000), .lit (.int .u64 1000000000000), .lit (.int .u64 10000000000000), .lit (.int .u64 100000000000000), .lit (.int .u64 1000000000000000), .lit (.int .u64 10000000000000000), .lit (.int .u64 100000000000000000), .lit (.int .u64 1000000000000000000), .lit (.int .u64 10000000000000000000)]
def laid_strconv_ErrRange {H : Type} : DataW H := .iface "*errors.errorString" (.ptr (.agg [.lit (.string [118, 97, 108, 117, 101, 32, 111, 117, 116, 32, 111, 102, 32, 114, 97, 110, 103, 101])]))
def laid_strconv_ErrSyntax {H : Type} : DataW H := .iface "*errors.errorString" (.ptr (.agg [.lit (.string [105, 110, 118, 97, 108, 105, 100, 32, 115, 121, 110, 116, 97, 120])]))
def laid_fields_token_meanings {H : Type} : DataW H := .agg [.agg [.lit (.string [105, 102]), .lit (.int .i64 3)], .agg [.lit (.string [97, 110, 100]), .lit (.int .i64 4)], .agg [.lit (.string [111, 114]), .lit (.int .i64 5)], .agg [.lit (.string [110, 111, 116]), .lit (.int .i64 6)], .agg [.lit (.string [116, 114, 117, 101]), .lit (.int .i64 7)], .agg [.lit (.string [102, 97, 108, 115, 101]), .lit (.int .i64 8)], .agg [.lit (.string [40]), .lit (.int .i64 9)], .agg [.lit (.string [41]), .lit (.int .i64 10)], .agg [.lit (.string [44]), .lit (.int .i64 11)], .agg [.lit (.string [43]), .lit (.int .i64 12)], .agg [.lit (.string [45]), .lit (.int .i64 13)], .agg [.lit (.string [42]), .lit (.int .i64 15)], .agg [.lit (.string [47]), .lit (.int .i64 16)], .agg [.lit (.string [37]), .lit (.int .i64 17)], .agg [.lit (.string [61]), .lit (.int .i64 18)], .agg [.lit (.string [60]), .lit (.int .i64 19)]]
def laid_fields_rules_spellings {H : Type} : DataW H := .agg [.agg [.lit (.string []), .lit (.string []), .lit (.string [])], .agg [.lit (.string []), .lit (.string []), .lit (.string [])], .agg [.lit (.string []), .lit (.string []), .lit (.string [])], .agg [.lit (.string [105, 102, 40]), .lit (.string [44, 32]), .lit (.string [41])], .agg [.lit (.string []), .lit (.string [32, 97, 110, 100, 32]), .lit (.string [])], .agg [.lit (.string []), .lit (.string [32, 111, 114, 32]), .lit (.string [])], .agg [.lit (.string [110, 111, 116, 32]), .lit (.string []), .lit (.string [])], .agg [.lit (.string [116, 114, 117, 101]), .lit (.string []), .lit (.string [])], .agg [.lit (.string [102, 97, 108, 115, 101]), .lit (.string []), .lit (.string [])], .agg [.lit (.string [40]), .lit (.string []), .lit (.string [41])], .agg [.lit (.string []), .lit (.string []), .lit (.string [])], .agg [.lit (.string []), .lit (.string []), .lit (.string [])], .agg [.lit (.string []), .lit (.string [32, 43, 32]), .lit (.string [])], .agg [.lit (.string []), .lit (.string [32, 45, 32]), .lit (.string [])], .agg [.lit (.string [45]), .lit (.string []), .lit (.string [])], .agg [.lit (.string []), .lit (.string [32, 42, 32]), .lit (.string [])], .agg [.lit (.string []), .lit (.string [32, 47, 32]), .lit (.string [])], .agg [.lit (.string []), .lit (.string [32, 37, 32]), .lit (.string [])], .agg [.lit (.string []), .lit (.string [32, 61, 32]), .lit (.string [])], .agg [.lit (.string []), .lit (.string [32, 60, 32]), .lit (.string [])]]
def laid_fields_rules_between {H : Type} : DataW H := .agg [.lit (.int .i64 0), .lit (.int .i64 0), .lit (.int .i64 0), .lit (.int .i64 0), .lit (.int .i64 2), .lit (.int .i64 1), .lit (.int .i64 0), .lit (.int .i64 0), .lit (.int .i64 0), .lit (.int .i64 0), .lit (.int .i64 0), .lit (.int .i64 0), .lit (.int .i64 4), .lit (.int .i64 4), .lit (.int .i64 0), .lit (.int .i64 5), .lit (.int .i64 5), .lit (.int .i64 5), .lit (.int .i64 3), .lit (.int .i64 3)]
def laid_fields_rules_ahead {H : Type} : DataW H := .agg [.lit (.int .i64 0), .lit (.int .i64 0), .lit (.int .i64 0), .lit (.int .i64 0), .lit (.int .i64 0), .lit (.int .i64 0), .lit (.int .i64 3), .lit (.int .i64 0), .lit (.int .i64 0), .lit (.int .i64 0), .lit (.int .i64 0), .lit (.int .i64 0), .lit (.int .i64 0), .lit (.int .i64 6), .lit (.int .i64 0), .lit (.int .i64 0), .lit (.int .i64 0), .lit (.int .i64 0), .lit (.int .i64 0), .lit (.int .i64 0)]
def laid_fields_lines_heads {H : Type} : DataW H := .agg [.agg [.lit (.string [115, 101, 116]), .lit (.int .i64 1), .lit (.int .i64 1), .lit (.bool true)], .agg [.lit (.string [100, 101, 108, 101, 116, 101]), .lit (.int .i64 2), .lit (.int .i64 1), .lit (.bool false)], .agg [.lit (.string [114, 101, 110, 97, 109, 101]), .lit (.int .i64 3), .lit (.int .i64 2), .lit (.bool false)], .agg [.lit (.string [98, 101, 103, 105, 110]), .lit (.int .i64 4), .lit (.int .i64 0), .lit (.bool false)], .agg [.lit (.string [99, 111, 109, 109, 105, 116]), .lit (.int .i64 5), .lit (.int .i64 0), .lit (.bool false)], .agg [.lit (.string [99, 97, 110, 99, 101, 108]), .lit (.int .i64 6), .lit (.int .i64 0), .lit (.bool false)], .agg [.lit (.string [117, 110, 100, 111]), .lit (.int .i64 7), .lit (.int .i64 0), .lit (.bool false)], .agg [.lit (.string [114, 101, 100, 111]), .lit (.int .i64 8), .lit (.int .i64 0), .lit (.bool false)], .agg [.lit (.string [118, 97, 108, 117, 101]), .lit (.int .i64 9), .lit (.int .i64 1), .lit (.bool false)], .agg [.lit (.string [114, 117, 108, 101]), .lit (.int .i64 10), .lit (.int .i64 1), .lit (.bool false)], .agg [.lit (.string [108, 105, 115, 116]), .lit (.int .i64 11), .lit (.int .i64 0), .lit (.bool false)], .agg [.lit (.string [111, 114, 100, 101, 114]), .lit (.int .i64 12), .lit (.int .i64 0), .lit (.bool false)]]

/-- 'fieldslaw.Edits': WHATEVER THE INPUT: true; the input reads as it did. -/
def editsSpec : ChangeSpec := { name := "edits", fn := fun _ => fun
  | [d] => { results := [.lit (.bool true)], args := [d] }
  | _ => none }
def editsRow : OpenClaim := { program := "ytihgojcfpnhelaagreatdoor", sum := "9ab7c9af9685a0363b0bb40eb991c1ac8386677cd9dc0a7672e6bc4ba0158d26", func := "fields/fieldslaw.Edits", spec := "edits", inPlace := ["internal/abi.NoEscape", "internal/bytealg.abigen_runtime_cmpstring"], unfollowed := true, recurses := true, named := ["strconv.ErrSyntax", "strconv.ErrRange", "internal/strconv.uint64pow10", "math/bits.deBruijn32tab", "math/bits.deBruijn64tab", "fields/token.meanings", "fields/rules.ahead", "fields/rules.between", "fields/rules.spellings", "fields/lines.heads"], apart := false, laid := [("math/bits.deBruijn32tab", laid_math_bits_deBruijn32tab), ("math/bits.deBruijn64tab", laid_math_bits_deBruijn64tab), ("internal/strconv.uint64pow10", laid_internal_strconv_uint64pow10), ("strconv.ErrRange", laid_strconv_ErrRange), ("strconv.ErrSyntax", laid_strconv_ErrSyntax), ("fields/token.meanings", laid_fields_token_meanings), ("fields/rules.spellings", laid_fields_rules_spellings), ("fields/rules.between", laid_fields_rules_between), ("fields/rules.ahead", laid_fields_rules_ahead), ("fields/lines.heads", laid_fields_lines_heads)] }
def EditsSaid : Prop := editsRow.holds Tryz.pinned (OpenSpec.ofChange editsSpec)

/-- ITS FALSE NEIGHBOUR: 'it returns false'. Refute it at one input. -/
def editsWrong : ChangeSpec := { name := "edits", fn := fun _ => fun
  | [d] => { results := [.lit (.bool false)], args := [d] }
  | _ => none }
def EditsWrongFalsely : Prop := editsRow.holds Tryz.pinned (OpenSpec.ofChange editsWrong)

/-- 'fieldskeep.Plain': WHATEVER THE INPUT: true; the input reads as it did. -/
def plainSpec : ChangeSpec := { name := "plain", fn := fun _ => fun
  | [d] => { results := [.lit (.bool true)], args := [d] }
  | _ => none }
def plainRow : OpenClaim := { program := "ytihgojcfpnhelaagreatdoor", sum := "9ab7c9af9685a0363b0bb40eb991c1ac8386677cd9dc0a7672e6bc4ba0158d26", func := "fields/fieldskeep.Plain", spec := "plain", inPlace := ["internal/abi.NoEscape", "internal/bytealg.abigen_runtime_cmpstring"], unfollowed := true, recurses := true, named := ["internal/strconv.uint64pow10", "math/bits.deBruijn32tab", "math/bits.deBruijn64tab", "strconv.ErrSyntax", "strconv.ErrRange", "fields/token.meanings", "fields/rules.ahead", "fields/rules.between", "fields/rules.spellings", "fields/lines.heads"], apart := false, laid := [("math/bits.deBruijn32tab", laid_math_bits_deBruijn32tab), ("math/bits.deBruijn64tab", laid_math_bits_deBruijn64tab), ("internal/strconv.uint64pow10", laid_internal_strconv_uint64pow10), ("strconv.ErrRange", laid_strconv_ErrRange), ("strconv.ErrSyntax", laid_strconv_ErrSyntax), ("fields/token.meanings", laid_fields_token_meanings), ("fields/rules.spellings", laid_fields_rules_spellings), ("fields/rules.between", laid_fields_rules_between), ("fields/rules.ahead", laid_fields_rules_ahead), ("fields/lines.heads", laid_fields_lines_heads)] }
def PlainSaid : Prop := plainRow.holds Tryz.pinned (OpenSpec.ofChange plainSpec)

/-- ITS FALSE NEIGHBOUR: 'it returns false'. Refute it at one input. -/
def plainWrong : ChangeSpec := { name := "plain", fn := fun _ => fun
  | [d] => { results := [.lit (.bool false)], args := [d] }
  | _ => none }
def PlainWrongFalsely : Prop := plainRow.holds Tryz.pinned (OpenSpec.ofChange plainWrong)

/-- 'fieldskeep.Known': WHATEVER THE INPUT: true; the input reads as it did. -/
def knownSpec : ChangeSpec := { name := "known", fn := fun _ => fun
  | [d1, d2, d3] => { results := [.lit (.bool true)], args := [d1, d2, d3] }
  | _ => none }
def knownRow : OpenClaim := { program := "ytihgojcfpnhelaagreatdoor", sum := "9ab7c9af9685a0363b0bb40eb991c1ac8386677cd9dc0a7672e6bc4ba0158d26", func := "fields/fieldskeep.Known", spec := "known", inPlace := ["internal/abi.NoEscape", "internal/bytealg.abigen_runtime_cmpstring"], unfollowed := true, recurses := true, named := ["internal/strconv.uint64pow10", "math/bits.deBruijn32tab", "math/bits.deBruijn64tab", "fields/lines.heads", "strconv.ErrSyntax", "strconv.ErrRange", "fields/token.meanings", "fields/rules.ahead", "fields/rules.between", "fields/rules.spellings"], apart := false, laid := [("math/bits.deBruijn32tab", laid_math_bits_deBruijn32tab), ("math/bits.deBruijn64tab", laid_math_bits_deBruijn64tab), ("internal/strconv.uint64pow10", laid_internal_strconv_uint64pow10), ("strconv.ErrRange", laid_strconv_ErrRange), ("strconv.ErrSyntax", laid_strconv_ErrSyntax), ("fields/token.meanings", laid_fields_token_meanings), ("fields/rules.spellings", laid_fields_rules_spellings), ("fields/rules.between", laid_fields_rules_between), ("fields/rules.ahead", laid_fields_rules_ahead), ("fields/lines.heads", laid_fields_lines_heads)] }
def KnownSaid : Prop := knownRow.holds Tryz.pinned (OpenSpec.ofChange knownSpec)

/-- ITS FALSE NEIGHBOUR: 'it returns false'. Refute it at one input. -/
def knownWrong : ChangeSpec := { name := "known", fn := fun _ => fun
  | [d1, d2, d3] => { results := [.lit (.bool false)], args := [d1, d2, d3] }
  | _ => none }
def KnownWrongFalsely : Prop := knownRow.holds Tryz.pinned (OpenSpec.ofChange knownWrong)

/-- 'fieldskeep.Round': WHATEVER THE INPUT: true; the input reads as it did. -/
def roundSpec : ChangeSpec := { name := "round", fn := fun _ => fun
  | [d1, d2] => { results := [.lit (.bool true)], args := [d1, d2] }
  | _ => none }
def roundRow : OpenClaim := { program := "ytihgojcfpnhelaagreatdoor", sum := "9ab7c9af9685a0363b0bb40eb991c1ac8386677cd9dc0a7672e6bc4ba0158d26", func := "fields/fieldskeep.Round", spec := "round", inPlace := ["internal/abi.NoEscape", "internal/bytealg.abigen_runtime_cmpstring"], unfollowed := true, recurses := true, named := ["internal/strconv.uint64pow10", "math/bits.deBruijn32tab", "math/bits.deBruijn64tab", "fields/lines.heads", "strconv.ErrSyntax", "strconv.ErrRange", "fields/token.meanings", "fields/rules.ahead", "fields/rules.between", "fields/rules.spellings"], apart := false, laid := [("math/bits.deBruijn32tab", laid_math_bits_deBruijn32tab), ("math/bits.deBruijn64tab", laid_math_bits_deBruijn64tab), ("internal/strconv.uint64pow10", laid_internal_strconv_uint64pow10), ("strconv.ErrRange", laid_strconv_ErrRange), ("strconv.ErrSyntax", laid_strconv_ErrSyntax), ("fields/token.meanings", laid_fields_token_meanings), ("fields/rules.spellings", laid_fields_rules_spellings), ("fields/rules.between", laid_fields_rules_between), ("fields/rules.ahead", laid_fields_rules_ahead), ("fields/lines.heads", laid_fields_lines_heads)] }
def RoundSaid : Prop := roundRow.holds Tryz.pinned (OpenSpec.ofChange roundSpec)

/-- ITS FALSE NEIGHBOUR: 'it returns false'. Refute it at one input. -/
def roundWrong : ChangeSpec := { name := "round", fn := fun _ => fun
  | [d1, d2] => { results := [.lit (.bool false)], args := [d1, d2] }
  | _ => none }
def RoundWrongFalsely : Prop := roundRow.holds Tryz.pinned (OpenSpec.ofChange roundWrong)

/-- 'fieldskeep.Ring': WHATEVER THE INPUT: true; the input reads as it did. -/
def ringSpec : ChangeSpec := { name := "ring", fn := fun _ => fun
  | [d1, d2, d3, d4] => { results := [.lit (.bool true)], args := [d1, d2, d3, d4] }
  | _ => none }
def ringRow : OpenClaim := { program := "ytihgojcfpnhelaagreatdoor", sum := "9ab7c9af9685a0363b0bb40eb991c1ac8386677cd9dc0a7672e6bc4ba0158d26", func := "fields/fieldskeep.Ring", spec := "ring", inPlace := ["internal/abi.NoEscape", "internal/bytealg.abigen_runtime_cmpstring"], unfollowed := true, recurses := true, named := ["internal/strconv.uint64pow10", "math/bits.deBruijn32tab", "math/bits.deBruijn64tab", "fields/lines.heads", "strconv.ErrSyntax", "strconv.ErrRange", "fields/token.meanings", "fields/rules.ahead", "fields/rules.between", "fields/rules.spellings"], apart := false, laid := [("math/bits.deBruijn32tab", laid_math_bits_deBruijn32tab), ("math/bits.deBruijn64tab", laid_math_bits_deBruijn64tab), ("internal/strconv.uint64pow10", laid_internal_strconv_uint64pow10), ("strconv.ErrRange", laid_strconv_ErrRange), ("strconv.ErrSyntax", laid_strconv_ErrSyntax), ("fields/token.meanings", laid_fields_token_meanings), ("fields/rules.spellings", laid_fields_rules_spellings), ("fields/rules.between", laid_fields_rules_between), ("fields/rules.ahead", laid_fields_rules_ahead), ("fields/lines.heads", laid_fields_lines_heads)] }
def RingSaid : Prop := ringRow.holds Tryz.pinned (OpenSpec.ofChange ringSpec)

/-- ITS FALSE NEIGHBOUR: 'it returns false'. Refute it at one input. -/
def ringWrong : ChangeSpec := { name := "ring", fn := fun _ => fun
  | [d1, d2, d3, d4] => { results := [.lit (.bool false)], args := [d1, d2, d3, d4] }
  | _ => none }
def RingWrongFalsely : Prop := ringRow.holds Tryz.pinned (OpenSpec.ofChange ringWrong)

/-- 'fieldskeep.Fresh': WHATEVER THE INPUT: true; the input reads as it did. -/
def freshSpec : ChangeSpec := { name := "fresh", fn := fun _ => fun
  | [d] => { results := [.lit (.bool true)], args := [d] }
  | _ => none }
def freshRow : OpenClaim := { program := "ytihgojcfpnhelaagreatdoor", sum := "9ab7c9af9685a0363b0bb40eb991c1ac8386677cd9dc0a7672e6bc4ba0158d26", func := "fields/fieldskeep.Fresh", spec := "fresh", inPlace := ["internal/abi.NoEscape", "internal/bytealg.abigen_runtime_cmpstring"], unfollowed := true, recurses := true, named := ["internal/strconv.uint64pow10", "math/bits.deBruijn32tab", "math/bits.deBruijn64tab", "fields/lines.heads", "strconv.ErrSyntax", "strconv.ErrRange", "fields/token.meanings", "fields/rules.ahead", "fields/rules.between", "fields/rules.spellings"], apart := false, laid := [("math/bits.deBruijn32tab", laid_math_bits_deBruijn32tab), ("math/bits.deBruijn64tab", laid_math_bits_deBruijn64tab), ("internal/strconv.uint64pow10", laid_internal_strconv_uint64pow10), ("strconv.ErrRange", laid_strconv_ErrRange), ("strconv.ErrSyntax", laid_strconv_ErrSyntax), ("fields/token.meanings", laid_fields_token_meanings), ("fields/rules.spellings", laid_fields_rules_spellings), ("fields/rules.between", laid_fields_rules_between), ("fields/rules.ahead", laid_fields_rules_ahead), ("fields/lines.heads", laid_fields_lines_heads)] }
def FreshSaid : Prop := freshRow.holds Tryz.pinned (OpenSpec.ofChange freshSpec)

/-- ITS FALSE NEIGHBOUR: 'it returns false'. Refute it at one input. -/
def freshWrong : ChangeSpec := { name := "fresh", fn := fun _ => fun
  | [d] => { results := [.lit (.bool false)], args := [d] }
  | _ => none }
def FreshWrongFalsely : Prop := freshRow.holds Tryz.pinned (OpenSpec.ofChange freshWrong)

/-- 'fieldskeep.Renamed': WHATEVER THE INPUT: true; the input reads as it did. -/
def renamedSpec : ChangeSpec := { name := "renamed", fn := fun _ => fun
  | [d1, d2] => { results := [.lit (.bool true)], args := [d1, d2] }
  | _ => none }
def renamedRow : OpenClaim := { program := "ytihgojcfpnhelaagreatdoor", sum := "9ab7c9af9685a0363b0bb40eb991c1ac8386677cd9dc0a7672e6bc4ba0158d26", func := "fields/fieldskeep.Renamed", spec := "renamed", inPlace := ["internal/abi.NoEscape", "internal/bytealg.abigen_runtime_cmpstring"], unfollowed := true, recurses := true, named := ["internal/strconv.uint64pow10", "math/bits.deBruijn32tab", "math/bits.deBruijn64tab", "fields/lines.heads", "strconv.ErrSyntax", "strconv.ErrRange", "fields/token.meanings", "fields/rules.ahead", "fields/rules.between", "fields/rules.spellings"], apart := false, laid := [("math/bits.deBruijn32tab", laid_math_bits_deBruijn32tab), ("math/bits.deBruijn64tab", laid_math_bits_deBruijn64tab), ("internal/strconv.uint64pow10", laid_internal_strconv_uint64pow10), ("strconv.ErrRange", laid_strconv_ErrRange), ("strconv.ErrSyntax", laid_strconv_ErrSyntax), ("fields/token.meanings", laid_fields_token_meanings), ("fields/rules.spellings", laid_fields_rules_spellings), ("fields/rules.between", laid_fields_rules_between), ("fields/rules.ahead", laid_fields_rules_ahead), ("fields/lines.heads", laid_fields_lines_heads)] }
def RenamedSaid : Prop := renamedRow.holds Tryz.pinned (OpenSpec.ofChange renamedSpec)

/-- ITS FALSE NEIGHBOUR: 'it returns false'. Refute it at one input. -/
def renamedWrong : ChangeSpec := { name := "renamed", fn := fun _ => fun
  | [d1, d2] => { results := [.lit (.bool false)], args := [d1, d2] }
  | _ => none }
def RenamedWrongFalsely : Prop := renamedRow.holds Tryz.pinned (OpenSpec.ofChange renamedWrong)

/-- 'fieldslaw.Undos': WHATEVER THE INPUT: true; the input reads as it did. -/
def undosSpec : ChangeSpec := { name := "undos", fn := fun _ => fun
  | [d] => { results := [.lit (.bool true)], args := [d] }
  | _ => none }
def undosRow : OpenClaim := { program := "ytihgojcfpnhelaagreatdoor", sum := "9ab7c9af9685a0363b0bb40eb991c1ac8386677cd9dc0a7672e6bc4ba0158d26", func := "fields/fieldslaw.Undos", spec := "undos", inPlace := ["internal/abi.NoEscape", "internal/bytealg.abigen_runtime_cmpstring"], unfollowed := true, recurses := true, named := ["strconv.ErrSyntax", "strconv.ErrRange", "internal/strconv.uint64pow10", "math/bits.deBruijn32tab", "math/bits.deBruijn64tab", "fields/token.meanings", "fields/rules.ahead", "fields/rules.between", "fields/rules.spellings", "fields/lines.heads"], apart := false, laid := [("math/bits.deBruijn32tab", laid_math_bits_deBruijn32tab), ("math/bits.deBruijn64tab", laid_math_bits_deBruijn64tab), ("internal/strconv.uint64pow10", laid_internal_strconv_uint64pow10), ("strconv.ErrRange", laid_strconv_ErrRange), ("strconv.ErrSyntax", laid_strconv_ErrSyntax), ("fields/token.meanings", laid_fields_token_meanings), ("fields/rules.spellings", laid_fields_rules_spellings), ("fields/rules.between", laid_fields_rules_between), ("fields/rules.ahead", laid_fields_rules_ahead), ("fields/lines.heads", laid_fields_lines_heads)] }
def UndosSaid : Prop := undosRow.holds Tryz.pinned (OpenSpec.ofChange undosSpec)

/-- ITS FALSE NEIGHBOUR: 'it returns false'. Refute it at one input. -/
def undosWrong : ChangeSpec := { name := "undos", fn := fun _ => fun
  | [d] => { results := [.lit (.bool false)], args := [d] }
  | _ => none }
def UndosWrongFalsely : Prop := undosRow.holds Tryz.pinned (OpenSpec.ofChange undosWrong)

/-- 'fieldskeep.Back': WHATEVER THE INPUT: true; the input reads as it did. -/
def backSpec : ChangeSpec := { name := "back", fn := fun _ => fun
  | [d1, d2] => { results := [.lit (.bool true)], args := [d1, d2] }
  | _ => none }
def backRow : OpenClaim := { program := "ytihgojcfpnhelaagreatdoor", sum := "9ab7c9af9685a0363b0bb40eb991c1ac8386677cd9dc0a7672e6bc4ba0158d26", func := "fields/fieldskeep.Back", spec := "back", inPlace := ["internal/abi.NoEscape", "internal/bytealg.abigen_runtime_cmpstring"], unfollowed := true, recurses := true, named := ["fields/lines.heads", "strconv.ErrSyntax", "strconv.ErrRange", "internal/strconv.uint64pow10", "math/bits.deBruijn32tab", "math/bits.deBruijn64tab", "fields/token.meanings", "fields/rules.ahead", "fields/rules.between", "fields/rules.spellings"], apart := false, laid := [("math/bits.deBruijn32tab", laid_math_bits_deBruijn32tab), ("math/bits.deBruijn64tab", laid_math_bits_deBruijn64tab), ("internal/strconv.uint64pow10", laid_internal_strconv_uint64pow10), ("strconv.ErrRange", laid_strconv_ErrRange), ("strconv.ErrSyntax", laid_strconv_ErrSyntax), ("fields/token.meanings", laid_fields_token_meanings), ("fields/rules.spellings", laid_fields_rules_spellings), ("fields/rules.between", laid_fields_rules_between), ("fields/rules.ahead", laid_fields_rules_ahead), ("fields/lines.heads", laid_fields_lines_heads)] }
def BackSaid : Prop := backRow.holds Tryz.pinned (OpenSpec.ofChange backSpec)

/-- ITS FALSE NEIGHBOUR: 'it returns false'. Refute it at one input. -/
def backWrong : ChangeSpec := { name := "back", fn := fun _ => fun
  | [d1, d2] => { results := [.lit (.bool false)], args := [d1, d2] }
  | _ => none }
def BackWrongFalsely : Prop := backRow.holds Tryz.pinned (OpenSpec.ofChange backWrong)

/-- 'fieldslaw.All': WHATEVER THE INPUT: true; the input reads as it did. -/
def allSpec : ChangeSpec := { name := "all", fn := fun _ => fun
  | [d] => { results := [.lit (.bool true)], args := [d] }
  | _ => none }
def allRow : OpenClaim := { program := "ytihgojcfpnhelaagreatdoor", sum := "9ab7c9af9685a0363b0bb40eb991c1ac8386677cd9dc0a7672e6bc4ba0158d26", func := "fields/fieldslaw.All", spec := "all", inPlace := ["internal/abi.NoEscape", "internal/bytealg.abigen_runtime_cmpstring"], unfollowed := true, recurses := true, named := ["strconv.ErrSyntax", "strconv.ErrRange", "internal/strconv.uint64pow10", "math/bits.deBruijn32tab", "math/bits.deBruijn64tab", "fields/token.meanings", "fields/rules.ahead", "fields/rules.between", "fields/rules.spellings", "fields/lines.heads"], apart := false, laid := [("math/bits.deBruijn32tab", laid_math_bits_deBruijn32tab), ("math/bits.deBruijn64tab", laid_math_bits_deBruijn64tab), ("internal/strconv.uint64pow10", laid_internal_strconv_uint64pow10), ("strconv.ErrRange", laid_strconv_ErrRange), ("strconv.ErrSyntax", laid_strconv_ErrSyntax), ("fields/token.meanings", laid_fields_token_meanings), ("fields/rules.spellings", laid_fields_rules_spellings), ("fields/rules.between", laid_fields_rules_between), ("fields/rules.ahead", laid_fields_rules_ahead), ("fields/lines.heads", laid_fields_lines_heads)] }
def AllSaid : Prop := allRow.holds Tryz.pinned (OpenSpec.ofChange allSpec)

/-- ITS FALSE NEIGHBOUR: 'it returns false'. Refute it at one input. -/
def allWrong : ChangeSpec := { name := "all", fn := fun _ => fun
  | [d] => { results := [.lit (.bool false)], args := [d] }
  | _ => none }
def AllWrongFalsely : Prop := allRow.holds Tryz.pinned (OpenSpec.ofChange allWrong)

/-- 'fieldskeep.Group': WHATEVER THE INPUT: true; the input reads as it did. -/
def groupSpec : ChangeSpec := { name := "group", fn := fun _ => fun
  | [d1, d2, d3] => { results := [.lit (.bool true)], args := [d1, d2, d3] }
  | _ => none }
def groupRow : OpenClaim := { program := "ytihgojcfpnhelaagreatdoor", sum := "9ab7c9af9685a0363b0bb40eb991c1ac8386677cd9dc0a7672e6bc4ba0158d26", func := "fields/fieldskeep.Group", spec := "group", inPlace := ["internal/abi.NoEscape", "internal/bytealg.abigen_runtime_cmpstring"], unfollowed := true, recurses := true, named := ["internal/strconv.uint64pow10", "math/bits.deBruijn32tab", "math/bits.deBruijn64tab", "fields/lines.heads", "strconv.ErrSyntax", "strconv.ErrRange", "fields/token.meanings", "fields/rules.ahead", "fields/rules.between", "fields/rules.spellings"], apart := false, laid := [("math/bits.deBruijn32tab", laid_math_bits_deBruijn32tab), ("math/bits.deBruijn64tab", laid_math_bits_deBruijn64tab), ("internal/strconv.uint64pow10", laid_internal_strconv_uint64pow10), ("strconv.ErrRange", laid_strconv_ErrRange), ("strconv.ErrSyntax", laid_strconv_ErrSyntax), ("fields/token.meanings", laid_fields_token_meanings), ("fields/rules.spellings", laid_fields_rules_spellings), ("fields/rules.between", laid_fields_rules_between), ("fields/rules.ahead", laid_fields_rules_ahead), ("fields/lines.heads", laid_fields_lines_heads)] }
def GroupSaid : Prop := groupRow.holds Tryz.pinned (OpenSpec.ofChange groupSpec)

/-- ITS FALSE NEIGHBOUR: 'it returns false'. Refute it at one input. -/
def groupWrong : ChangeSpec := { name := "group", fn := fun _ => fun
  | [d1, d2, d3] => { results := [.lit (.bool false)], args := [d1, d2, d3] }
  | _ => none }
def GroupWrongFalsely : Prop := groupRow.holds Tryz.pinned (OpenSpec.ofChange groupWrong)

/- THE SECOND FORM. 'bulk': how many values and letters a reading holds, each counted each time it is reached (what is shared counts as often as it is met; a slice's spare places count too). A statement '..UptoSaid' is the law's where the arguments, and the package variables that the reading takes, are together of bulk at most 1048576: NARROWER than '..Said'. Prove '..Said' where nothing that the law and all that it calls make is longer than what came in: it says more and counts as full. Else prove '..UptoSaid'. A law counts once. -/
mutual
def uptoBulk {H : Type} : DataW H → Nat
  | .lit (.string bytes) => bytes.length + 1
  | .lit _ => 1
  | .nil => 1
  | .ptr d => uptoBulk d + 1
  | .slice elems spare => uptoBulkAll elems + uptoBulkAll spare + 1
  | .agg parts => uptoBulkAll parts + 1
  | .iface _ d => uptoBulk d + 1
  | .map entries => uptoBulkEntries entries + 1
  | .held _ => 1
def uptoBulkAll {H : Type} : List (DataW H) → Nat
  | [] => 0
  | d :: r => uptoBulk d + uptoBulkAll r
def uptoBulkEntries {H : Type} : List (Lit × DataW H) → Nat
  | [] => 0
  | x :: r => uptoBulkEntry x + uptoBulkEntries r
def uptoBulkEntry {H : Type} : Lit × DataW H → Nat
  | (.string bytes, d) => bytes.length + uptoBulk d + 1
  | (_, d) => uptoBulk d + 1
 end
def uptoSmall : (H : Type) → List (DataW H) → Bool := fun _ ds => decide (uptoBulkAll ds ≤ 1048576)
def OpenSpec.upto (s : _root_.Go.ChangeSpec) : _root_.Go.OpenSpec := { _root_.Go.OpenSpec.ofChange s with cond := some uptoSmall }

/-- 'fieldslaw.Edits', WHERE WHAT IT READS IS OF BULK AT MOST 1048576: true; the input reads as it did. -/
def editsUptoRow : OpenClaim := { program := "ytihgojcfpnhelaagreatdoor", sum := "9ab7c9af9685a0363b0bb40eb991c1ac8386677cd9dc0a7672e6bc4ba0158d26", func := "fields/fieldslaw.Edits", spec := "edits", inPlace := ["internal/abi.NoEscape", "internal/bytealg.abigen_runtime_cmpstring"], unfollowed := true, recurses := true, named := ["strconv.ErrSyntax", "strconv.ErrRange", "internal/strconv.uint64pow10", "math/bits.deBruijn32tab", "math/bits.deBruijn64tab", "fields/token.meanings", "fields/rules.ahead", "fields/rules.between", "fields/rules.spellings", "fields/lines.heads"], apart := false, laid := [("math/bits.deBruijn32tab", laid_math_bits_deBruijn32tab), ("math/bits.deBruijn64tab", laid_math_bits_deBruijn64tab), ("internal/strconv.uint64pow10", laid_internal_strconv_uint64pow10), ("strconv.ErrRange", laid_strconv_ErrRange), ("strconv.ErrSyntax", laid_strconv_ErrSyntax), ("fields/token.meanings", laid_fields_token_meanings), ("fields/rules.spellings", laid_fields_rules_spellings), ("fields/rules.between", laid_fields_rules_between), ("fields/rules.ahead", laid_fields_rules_ahead), ("fields/lines.heads", laid_fields_lines_heads)], narrowed := true }
def EditsUptoSaid : Prop := editsUptoRow.holds Tryz.pinned (OpenSpec.upto editsSpec)

/-- 'fieldskeep.Plain', WHERE WHAT IT READS IS OF BULK AT MOST 1048576: true; the input reads as it did. -/
def plainUptoRow : OpenClaim := { program := "ytihgojcfpnhelaagreatdoor", sum := "9ab7c9af9685a0363b0bb40eb991c1ac8386677cd9dc0a7672e6bc4ba0158d26", func := "fields/fieldskeep.Plain", spec := "plain", inPlace := ["internal/abi.NoEscape", "internal/bytealg.abigen_runtime_cmpstring"], unfollowed := true, recurses := true, named := ["internal/strconv.uint64pow10", "math/bits.deBruijn32tab", "math/bits.deBruijn64tab", "strconv.ErrSyntax", "strconv.ErrRange", "fields/token.meanings", "fields/rules.ahead", "fields/rules.between", "fields/rules.spellings", "fields/lines.heads"], apart := false, laid := [("math/bits.deBruijn32tab", laid_math_bits_deBruijn32tab), ("math/bits.deBruijn64tab", laid_math_bits_deBruijn64tab), ("internal/strconv.uint64pow10", laid_internal_strconv_uint64pow10), ("strconv.ErrRange", laid_strconv_ErrRange), ("strconv.ErrSyntax", laid_strconv_ErrSyntax), ("fields/token.meanings", laid_fields_token_meanings), ("fields/rules.spellings", laid_fields_rules_spellings), ("fields/rules.between", laid_fields_rules_between), ("fields/rules.ahead", laid_fields_rules_ahead), ("fields/lines.heads", laid_fields_lines_heads)], narrowed := true }
def PlainUptoSaid : Prop := plainUptoRow.holds Tryz.pinned (OpenSpec.upto plainSpec)

/-- 'fieldskeep.Known', WHERE WHAT IT READS IS OF BULK AT MOST 1048576: true; the input reads as it did. -/
def knownUptoRow : OpenClaim := { program := "ytihgojcfpnhelaagreatdoor", sum := "9ab7c9af9685a0363b0bb40eb991c1ac8386677cd9dc0a7672e6bc4ba0158d26", func := "fields/fieldskeep.Known", spec := "known", inPlace := ["internal/abi.NoEscape", "internal/bytealg.abigen_runtime_cmpstring"], unfollowed := true, recurses := true, named := ["internal/strconv.uint64pow10", "math/bits.deBruijn32tab", "math/bits.deBruijn64tab", "fields/lines.heads", "strconv.ErrSyntax", "strconv.ErrRange", "fields/token.meanings", "fields/rules.ahead", "fields/rules.between", "fields/rules.spellings"], apart := false, laid := [("math/bits.deBruijn32tab", laid_math_bits_deBruijn32tab), ("math/bits.deBruijn64tab", laid_math_bits_deBruijn64tab), ("internal/strconv.uint64pow10", laid_internal_strconv_uint64pow10), ("strconv.ErrRange", laid_strconv_ErrRange), ("strconv.ErrSyntax", laid_strconv_ErrSyntax), ("fields/token.meanings", laid_fields_token_meanings), ("fields/rules.spellings", laid_fields_rules_spellings), ("fields/rules.between", laid_fields_rules_between), ("fields/rules.ahead", laid_fields_rules_ahead), ("fields/lines.heads", laid_fields_lines_heads)], narrowed := true }
def KnownUptoSaid : Prop := knownUptoRow.holds Tryz.pinned (OpenSpec.upto knownSpec)

/-- 'fieldskeep.Round', WHERE WHAT IT READS IS OF BULK AT MOST 1048576: true; the input reads as it did. -/
def roundUptoRow : OpenClaim := { program := "ytihgojcfpnhelaagreatdoor", sum := "9ab7c9af9685a0363b0bb40eb991c1ac8386677cd9dc0a7672e6bc4ba0158d26", func := "fields/fieldskeep.Round", spec := "round", inPlace := ["internal/abi.NoEscape", "internal/bytealg.abigen_runtime_cmpstring"], unfollowed := true, recurses := true, named := ["internal/strconv.uint64pow10", "math/bits.deBruijn32tab", "math/bits.deBruijn64tab", "fields/lines.heads", "strconv.ErrSyntax", "strconv.ErrRange", "fields/token.meanings", "fields/rules.ahead", "fields/rules.between", "fields/rules.spellings"], apart := false, laid := [("math/bits.deBruijn32tab", laid_math_bits_deBruijn32tab), ("math/bits.deBruijn64tab", laid_math_bits_deBruijn64tab), ("internal/strconv.uint64pow10", laid_internal_strconv_uint64pow10), ("strconv.ErrRange", laid_strconv_ErrRange), ("strconv.ErrSyntax", laid_strconv_ErrSyntax), ("fields/token.meanings", laid_fields_token_meanings), ("fields/rules.spellings", laid_fields_rules_spellings), ("fields/rules.between", laid_fields_rules_between), ("fields/rules.ahead", laid_fields_rules_ahead), ("fields/lines.heads", laid_fields_lines_heads)], narrowed := true }
def RoundUptoSaid : Prop := roundUptoRow.holds Tryz.pinned (OpenSpec.upto roundSpec)

/-- 'fieldskeep.Ring', WHERE WHAT IT READS IS OF BULK AT MOST 1048576: true; the input reads as it did. -/
def ringUptoRow : OpenClaim := { program := "ytihgojcfpnhelaagreatdoor", sum := "9ab7c9af9685a0363b0bb40eb991c1ac8386677cd9dc0a7672e6bc4ba0158d26", func := "fields/fieldskeep.Ring", spec := "ring", inPlace := ["internal/abi.NoEscape", "internal/bytealg.abigen_runtime_cmpstring"], unfollowed := true, recurses := true, named := ["internal/strconv.uint64pow10", "math/bits.deBruijn32tab", "math/bits.deBruijn64tab", "fields/lines.heads", "strconv.ErrSyntax", "strconv.ErrRange", "fields/token.meanings", "fields/rules.ahead", "fields/rules.between", "fields/rules.spellings"], apart := false, laid := [("math/bits.deBruijn32tab", laid_math_bits_deBruijn32tab), ("math/bits.deBruijn64tab", laid_math_bits_deBruijn64tab), ("internal/strconv.uint64pow10", laid_internal_strconv_uint64pow10), ("strconv.ErrRange", laid_strconv_ErrRange), ("strconv.ErrSyntax", laid_strconv_ErrSyntax), ("fields/token.meanings", laid_fields_token_meanings), ("fields/rules.spellings", laid_fields_rules_spellings), ("fields/rules.between", laid_fields_rules_between), ("fields/rules.ahead", laid_fields_rules_ahead), ("fields/lines.heads", laid_fields_lines_heads)], narrowed := true }
def RingUptoSaid : Prop := ringUptoRow.holds Tryz.pinned (OpenSpec.upto ringSpec)

/-- 'fieldskeep.Fresh', WHERE WHAT IT READS IS OF BULK AT MOST 1048576: true; the input reads as it did. -/
def freshUptoRow : OpenClaim := { program := "ytihgojcfpnhelaagreatdoor", sum := "9ab7c9af9685a0363b0bb40eb991c1ac8386677cd9dc0a7672e6bc4ba0158d26", func := "fields/fieldskeep.Fresh", spec := "fresh", inPlace := ["internal/abi.NoEscape", "internal/bytealg.abigen_runtime_cmpstring"], unfollowed := true, recurses := true, named := ["internal/strconv.uint64pow10", "math/bits.deBruijn32tab", "math/bits.deBruijn64tab", "fields/lines.heads", "strconv.ErrSyntax", "strconv.ErrRange", "fields/token.meanings", "fields/rules.ahead", "fields/rules.between", "fields/rules.spellings"], apart := false, laid := [("math/bits.deBruijn32tab", laid_math_bits_deBruijn32tab), ("math/bits.deBruijn64tab", laid_math_bits_deBruijn64tab), ("internal/strconv.uint64pow10", laid_internal_strconv_uint64pow10), ("strconv.ErrRange", laid_strconv_ErrRange), ("strconv.ErrSyntax", laid_strconv_ErrSyntax), ("fields/token.meanings", laid_fields_token_meanings), ("fields/rules.spellings", laid_fields_rules_spellings), ("fields/rules.between", laid_fields_rules_between), ("fields/rules.ahead", laid_fields_rules_ahead), ("fields/lines.heads", laid_fields_lines_heads)], narrowed := true }
def FreshUptoSaid : Prop := freshUptoRow.holds Tryz.pinned (OpenSpec.upto freshSpec)

/-- 'fieldskeep.Renamed', WHERE WHAT IT READS IS OF BULK AT MOST 1048576: true; the input reads as it did. -/
def renamedUptoRow : OpenClaim := { program := "ytihgojcfpnhelaagreatdoor", sum := "9ab7c9af9685a0363b0bb40eb991c1ac8386677cd9dc0a7672e6bc4ba0158d26", func := "fields/fieldskeep.Renamed", spec := "renamed", inPlace := ["internal/abi.NoEscape", "internal/bytealg.abigen_runtime_cmpstring"], unfollowed := true, recurses := true, named := ["internal/strconv.uint64pow10", "math/bits.deBruijn32tab", "math/bits.deBruijn64tab", "fields/lines.heads", "strconv.ErrSyntax", "strconv.ErrRange", "fields/token.meanings", "fields/rules.ahead", "fields/rules.between", "fields/rules.spellings"], apart := false, laid := [("math/bits.deBruijn32tab", laid_math_bits_deBruijn32tab), ("math/bits.deBruijn64tab", laid_math_bits_deBruijn64tab), ("internal/strconv.uint64pow10", laid_internal_strconv_uint64pow10), ("strconv.ErrRange", laid_strconv_ErrRange), ("strconv.ErrSyntax", laid_strconv_ErrSyntax), ("fields/token.meanings", laid_fields_token_meanings), ("fields/rules.spellings", laid_fields_rules_spellings), ("fields/rules.between", laid_fields_rules_between), ("fields/rules.ahead", laid_fields_rules_ahead), ("fields/lines.heads", laid_fields_lines_heads)], narrowed := true }
def RenamedUptoSaid : Prop := renamedUptoRow.holds Tryz.pinned (OpenSpec.upto renamedSpec)

/-- 'fieldslaw.Undos', WHERE WHAT IT READS IS OF BULK AT MOST 1048576: true; the input reads as it did. -/
def undosUptoRow : OpenClaim := { program := "ytihgojcfpnhelaagreatdoor", sum := "9ab7c9af9685a0363b0bb40eb991c1ac8386677cd9dc0a7672e6bc4ba0158d26", func := "fields/fieldslaw.Undos", spec := "undos", inPlace := ["internal/abi.NoEscape", "internal/bytealg.abigen_runtime_cmpstring"], unfollowed := true, recurses := true, named := ["strconv.ErrSyntax", "strconv.ErrRange", "internal/strconv.uint64pow10", "math/bits.deBruijn32tab", "math/bits.deBruijn64tab", "fields/token.meanings", "fields/rules.ahead", "fields/rules.between", "fields/rules.spellings", "fields/lines.heads"], apart := false, laid := [("math/bits.deBruijn32tab", laid_math_bits_deBruijn32tab), ("math/bits.deBruijn64tab", laid_math_bits_deBruijn64tab), ("internal/strconv.uint64pow10", laid_internal_strconv_uint64pow10), ("strconv.ErrRange", laid_strconv_ErrRange), ("strconv.ErrSyntax", laid_strconv_ErrSyntax), ("fields/token.meanings", laid_fields_token_meanings), ("fields/rules.spellings", laid_fields_rules_spellings), ("fields/rules.between", laid_fields_rules_between), ("fields/rules.ahead", laid_fields_rules_ahead), ("fields/lines.heads", laid_fields_lines_heads)], narrowed := true }
def UndosUptoSaid : Prop := undosUptoRow.holds Tryz.pinned (OpenSpec.upto undosSpec)

/-- 'fieldskeep.Back', WHERE WHAT IT READS IS OF BULK AT MOST 1048576: true; the input reads as it did. -/
def backUptoRow : OpenClaim := { program := "ytihgojcfpnhelaagreatdoor", sum := "9ab7c9af9685a0363b0bb40eb991c1ac8386677cd9dc0a7672e6bc4ba0158d26", func := "fields/fieldskeep.Back", spec := "back", inPlace := ["internal/abi.NoEscape", "internal/bytealg.abigen_runtime_cmpstring"], unfollowed := true, recurses := true, named := ["fields/lines.heads", "strconv.ErrSyntax", "strconv.ErrRange", "internal/strconv.uint64pow10", "math/bits.deBruijn32tab", "math/bits.deBruijn64tab", "fields/token.meanings", "fields/rules.ahead", "fields/rules.between", "fields/rules.spellings"], apart := false, laid := [("math/bits.deBruijn32tab", laid_math_bits_deBruijn32tab), ("math/bits.deBruijn64tab", laid_math_bits_deBruijn64tab), ("internal/strconv.uint64pow10", laid_internal_strconv_uint64pow10), ("strconv.ErrRange", laid_strconv_ErrRange), ("strconv.ErrSyntax", laid_strconv_ErrSyntax), ("fields/token.meanings", laid_fields_token_meanings), ("fields/rules.spellings", laid_fields_rules_spellings), ("fields/rules.between", laid_fields_rules_between), ("fields/rules.ahead", laid_fields_rules_ahead), ("fields/lines.heads", laid_fields_lines_heads)], narrowed := true }
def BackUptoSaid : Prop := backUptoRow.holds Tryz.pinned (OpenSpec.upto backSpec)

/-- 'fieldslaw.All', WHERE WHAT IT READS IS OF BULK AT MOST 1048576: true; the input reads as it did. -/
def allUptoRow : OpenClaim := { program := "ytihgojcfpnhelaagreatdoor", sum := "9ab7c9af9685a0363b0bb40eb991c1ac8386677cd9dc0a7672e6bc4ba0158d26", func := "fields/fieldslaw.All", spec := "all", inPlace := ["internal/abi.NoEscape", "internal/bytealg.abigen_runtime_cmpstring"], unfollowed := true, recurses := true, named := ["strconv.ErrSyntax", "strconv.ErrRange", "internal/strconv.uint64pow10", "math/bits.deBruijn32tab", "math/bits.deBruijn64tab", "fields/token.meanings", "fields/rules.ahead", "fields/rules.between", "fields/rules.spellings", "fields/lines.heads"], apart := false, laid := [("math/bits.deBruijn32tab", laid_math_bits_deBruijn32tab), ("math/bits.deBruijn64tab", laid_math_bits_deBruijn64tab), ("internal/strconv.uint64pow10", laid_internal_strconv_uint64pow10), ("strconv.ErrRange", laid_strconv_ErrRange), ("strconv.ErrSyntax", laid_strconv_ErrSyntax), ("fields/token.meanings", laid_fields_token_meanings), ("fields/rules.spellings", laid_fields_rules_spellings), ("fields/rules.between", laid_fields_rules_between), ("fields/rules.ahead", laid_fields_rules_ahead), ("fields/lines.heads", laid_fields_lines_heads)], narrowed := true }
def AllUptoSaid : Prop := allUptoRow.holds Tryz.pinned (OpenSpec.upto allSpec)

/-- 'fieldskeep.Group', WHERE WHAT IT READS IS OF BULK AT MOST 1048576: true; the input reads as it did. -/
def groupUptoRow : OpenClaim := { program := "ytihgojcfpnhelaagreatdoor", sum := "9ab7c9af9685a0363b0bb40eb991c1ac8386677cd9dc0a7672e6bc4ba0158d26", func := "fields/fieldskeep.Group", spec := "group", inPlace := ["internal/abi.NoEscape", "internal/bytealg.abigen_runtime_cmpstring"], unfollowed := true, recurses := true, named := ["internal/strconv.uint64pow10", "math/bits.deBruijn32tab", "math/bits.deBruijn64tab", "fields/lines.heads", "strconv.ErrSyntax", "strconv.ErrRange", "fields/token.meanings", "fields/rules.ahead", "fields/rules.between", "fields/rules.spellings"], apart := false, laid := [("math/bits.deBruijn32tab", laid_math_bits_deBruijn32tab), ("math/bits.deBruijn64tab", laid_math_bits_deBruijn64tab), ("internal/strconv.uint64pow10", laid_internal_strconv_uint64pow10), ("strconv.ErrRange", laid_strconv_ErrRange), ("strconv.ErrSyntax", laid_strconv_ErrSyntax), ("fields/token.meanings", laid_fields_token_meanings), ("fields/rules.spellings", laid_fields_rules_spellings), ("fields/rules.between", laid_fields_rules_between), ("fields/rules.ahead", laid_fields_rules_ahead), ("fields/lines.heads", laid_fields_lines_heads)], narrowed := true }
def GroupUptoSaid : Prop := groupUptoRow.holds Tryz.pinned (OpenSpec.upto groupSpec)

end Rows
end Go.Proofs.YtihgojcfpnhelaaGreatDoor
