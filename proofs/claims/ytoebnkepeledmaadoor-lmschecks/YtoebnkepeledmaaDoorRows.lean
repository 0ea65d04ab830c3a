/-
  NARROWER THAN 'FOR EVERY INPUT', by the rows' own cells (each row's printed sentence says how): OtsKeys: laid · OtsSigns: laid · OtsBacks: laid · OtsApart: laid · OtsLengths: laid · LmsKeys: laid · LmsSigns: laid · LmsChecks: laid · LmsOthers: laid · LmsLeaves: laid · LmsForms: laid.
  DERIVED. THE GIVEN ROWS OF THIS SEAT. 11 by the template 'for every input the law returns true; each argument reads behind the call as it read before'; 0 by the template 'total and deterministic' (their statements: YtoebnkepeledmaaDoorTotals.lean).
  GIVEN WITH THE SEED: the statements are not yours to turn. If you find one false, say at which input.
  Laid BY PROGRAM, IN A SANDBOX (cutbox-rows.mjs): the forced cells as the released guide's own fill.sh prints them over the translation d0cb5713fc876671… (all of the seat's roots in one cut). By AI agents, Wed Nov 11 2026. No macro, syntax, notation, axiom, sorry.
-/
import Derived.Test.YtoebnkepeledmaaDoorChecked
import GoSem.Claim
import GoSem.ClaimJoined
import GoSem.ClaimMapViews
import Derived.JoinedTies
import Derived.KernelRfl
namespace Go.Proofs.YtoebnkepeledmaaDoor
/- THE CELL 'sum', in the pinned program and in every row, IS THE sha256 OF THE DUMP (.gsa) THAT YtoebnkepeledmaaDoorProg.lean LOADS. Nothing in Lean hashes anything: it is a label: what it is worth is what the hold of that sum in a sandbox is worth. -/
noncomputable def Tryd.pinned : Pinned := { name := "ytoebnkepeledmaadoor", sum := "d0cb5713fc8766719245ab438797c4fd30b3fbbbf80f4e1c47624a374fc31ed1", checked := Tryd.checked }
namespace Rows
def none {H : Type} : Left H := { results := [], args := [] }

/- WHAT THE LISTED PACKAGE-LEVEL VARIABLES READ AS WHEN THE CALL BEGINS. Each datum BY PROGRAM (the guide's laid-datum.mjs) off the statement by which the dump's own 'gosem.cut.vars' lays the variable. In a bare row this is a premise. The card (YtoebnkepeledmaaDoorCards.lean) ties it to the program's text. -/
def laid_lattice_sha_firstState {H : Type} : DataW H := .agg [.lit (.int .u32 1779033703), .lit (.int .u32 3144134277), .lit (.int .u32 1013904242), .lit (.int .u32 2773480762), .lit (.int .u32 1359893119), .lit (.int .u32 2600822924), .lit (.int .u32 528734635), .lit (.int .u32 1541459225)]
def laid_lattice_sha_roundWords {H : Type} : DataW H := .agg [.lit (.int .u32 1116352408), .lit (.int .u32 1899447441), .lit (.int .u32 3049323471), .lit (.int .u32 3921009573), .lit (.int .u32 961987163), .lit (.int .u32 1508970993), .lit (.int .u32 2453635748), .lit (.int .u32 2870763221), .lit (.int .u32 3624381080), .lit (.int .u32 310598401), .lit (.int .u32 607225278), .lit (.int .u32 1426881987), .lit (.int .u32 1925078388), .lit (.int .u32 2162078206), .lit (.int .u32 2614888103), .lit (.int .u32 3248222580), .lit (.int .u32 3835390401), .lit (.int .u32 4022224774), .lit (.int .u32 264347078), .lit (.int .u32 604807628), .lit (.int .u32 770255983), .lit (.int .u32 1249150122), .lit (.int .u32 1555081692), .lit (.int .u32 1996064986), .lit (.int .u32 2554220882), .lit (.int .u32 2821834349), .lit (.int .u32 2952996808), .lit (.int .u32 3210313671), .lit (.int .u32 3336571891), .lit (.int .u32 3584528711), .lit (.int .u32 113926993), .lit (.int .u32 338241895), .lit (.int .u32 666307205), .lit (.int .u32 773529912), .lit (.int .u32 1294757372), .lit (.int .u32 1396182291), .lit (.int .u32 1695183700), .lit (.int .u32 1986661051), .lit (.int .u32 2177026350), .lit (.int .u32 2456956037), .lit (.int .u32 2730485921), .lit (.int .u32 2820302411), .lit (.int .u32 3259730800), .lit (.int .u32 3345764771), .lit (.int .u32 3516065817), .lit (.int .u32 3600352804), .lit (.int .u32 4094571909), .lit (.int .u32 275423344), .lit (.int .u32 430227734), .lit (.int .u32 506948616), .lit (.int .u32 659060556), .lit (.int .u32 883997877), .lit (.int .u32 958139571), .lit (.int .u32 1322822218), .lit (.int .u32 1537002063), .lit (.int .u32 1747873779), .lit (.int .u32 1955562222), .lit (.int .u32 2024104815), .lit (.int .u32 2227730452), .lit (.int .u32 2361852424), .lit (.int .u32 2428436474), .lit (.int .u32 2756734187), .lit (.int .u32 3204031479), .lit (.int .u32 3329325298)]

/-- 'latticelaw5.OtsKeys': WHATEVER THE INPUT: true; the input reads as it did. -/
def otsKeysSpec : ChangeSpec := { name := "otsKeys", fn := fun _ => fun
  | [d1, d2, d3] => { results := [.lit (.bool true)], args := [d1, d2, d3] }
  | _ => none }
def otsKeysRow : OpenClaim := { program := "ytoebnkepeledmaadoor", sum := "d0cb5713fc8766719245ab438797c4fd30b3fbbbf80f4e1c47624a374fc31ed1", func := "lattice/latticelaw5.OtsKeys", spec := "otsKeys", named := ["lattice/sha.firstState", "lattice/sha.roundWords"], apart := false, laid := [("lattice/sha.firstState", laid_lattice_sha_firstState), ("lattice/sha.roundWords", laid_lattice_sha_roundWords)] }
def OtsKeysSaid : Prop := otsKeysRow.holds Tryd.pinned (OpenSpec.ofChange otsKeysSpec)

/-- ITS FALSE NEIGHBOUR: 'it returns false'. Refute it at one input. -/
def otsKeysWrong : ChangeSpec := { name := "otsKeys", fn := fun _ => fun
  | [d1, d2, d3] => { results := [.lit (.bool false)], args := [d1, d2, d3] }
  | _ => none }
def OtsKeysWrongFalsely : Prop := otsKeysRow.holds Tryd.pinned (OpenSpec.ofChange otsKeysWrong)

/-- 'latticelaw5.OtsSigns': WHATEVER THE INPUT: true; the input reads as it did. -/
def otsSignsSpec : ChangeSpec := { name := "otsSigns", fn := fun _ => fun
  | [d1, d2, d3, d4] => { results := [.lit (.bool true)], args := [d1, d2, d3, d4] }
  | _ => none }
def otsSignsRow : OpenClaim := { program := "ytoebnkepeledmaadoor", sum := "d0cb5713fc8766719245ab438797c4fd30b3fbbbf80f4e1c47624a374fc31ed1", func := "lattice/latticelaw5.OtsSigns", spec := "otsSigns", named := ["lattice/sha.firstState", "lattice/sha.roundWords"], apart := false, laid := [("lattice/sha.firstState", laid_lattice_sha_firstState), ("lattice/sha.roundWords", laid_lattice_sha_roundWords)] }
def OtsSignsSaid : Prop := otsSignsRow.holds Tryd.pinned (OpenSpec.ofChange otsSignsSpec)

/-- ITS FALSE NEIGHBOUR: 'it returns false'. Refute it at one input. -/
def otsSignsWrong : ChangeSpec := { name := "otsSigns", fn := fun _ => fun
  | [d1, d2, d3, d4] => { results := [.lit (.bool false)], args := [d1, d2, d3, d4] }
  | _ => none }
def OtsSignsWrongFalsely : Prop := otsSignsRow.holds Tryd.pinned (OpenSpec.ofChange otsSignsWrong)

/-- 'latticelaw5.OtsBacks': WHATEVER THE INPUT: true; the input reads as it did. -/
def otsBacksSpec : ChangeSpec := { name := "otsBacks", fn := fun _ => fun
  | [d1, d2, d3, d4, d5, d6, d7, d8] => { results := [.lit (.bool true)], args := [d1, d2, d3, d4, d5, d6, d7, d8] }
  | _ => none }
def otsBacksRow : OpenClaim := { program := "ytoebnkepeledmaadoor", sum := "d0cb5713fc8766719245ab438797c4fd30b3fbbbf80f4e1c47624a374fc31ed1", func := "lattice/latticelaw5.OtsBacks", spec := "otsBacks", named := ["lattice/sha.firstState", "lattice/sha.roundWords"], apart := false, laid := [("lattice/sha.firstState", laid_lattice_sha_firstState), ("lattice/sha.roundWords", laid_lattice_sha_roundWords)] }
def OtsBacksSaid : Prop := otsBacksRow.holds Tryd.pinned (OpenSpec.ofChange otsBacksSpec)

/-- ITS FALSE NEIGHBOUR: 'it returns false'. Refute it at one input. -/
def otsBacksWrong : ChangeSpec := { name := "otsBacks", fn := fun _ => fun
  | [d1, d2, d3, d4, d5, d6, d7, d8] => { results := [.lit (.bool false)], args := [d1, d2, d3, d4, d5, d6, d7, d8] }
  | _ => none }
def OtsBacksWrongFalsely : Prop := otsBacksRow.holds Tryd.pinned (OpenSpec.ofChange otsBacksWrong)

/-- 'latticelaw5.OtsApart': WHATEVER THE INPUT: true; the input reads as it did. -/
def otsApartSpec : ChangeSpec := { name := "otsApart", fn := fun _ => fun
  | [d1, d2, d3, d4, d5, d6] => { results := [.lit (.bool true)], args := [d1, d2, d3, d4, d5, d6] }
  | _ => none }
def otsApartRow : OpenClaim := { program := "ytoebnkepeledmaadoor", sum := "d0cb5713fc8766719245ab438797c4fd30b3fbbbf80f4e1c47624a374fc31ed1", func := "lattice/latticelaw5.OtsApart", spec := "otsApart", named := ["lattice/sha.firstState", "lattice/sha.roundWords"], apart := false, laid := [("lattice/sha.firstState", laid_lattice_sha_firstState), ("lattice/sha.roundWords", laid_lattice_sha_roundWords)] }
def OtsApartSaid : Prop := otsApartRow.holds Tryd.pinned (OpenSpec.ofChange otsApartSpec)

/-- ITS FALSE NEIGHBOUR: 'it returns false'. Refute it at one input. -/
def otsApartWrong : ChangeSpec := { name := "otsApart", fn := fun _ => fun
  | [d1, d2, d3, d4, d5, d6] => { results := [.lit (.bool false)], args := [d1, d2, d3, d4, d5, d6] }
  | _ => none }
def OtsApartWrongFalsely : Prop := otsApartRow.holds Tryd.pinned (OpenSpec.ofChange otsApartWrong)

/-- 'latticelaw5.OtsLengths': WHATEVER THE INPUT: true; the input reads as it did. -/
def otsLengthsSpec : ChangeSpec := { name := "otsLengths", fn := fun _ => fun
  | [d1, d2, d3, d4, d5] => { results := [.lit (.bool true)], args := [d1, d2, d3, d4, d5] }
  | _ => none }
def otsLengthsRow : OpenClaim := { program := "ytoebnkepeledmaadoor", sum := "d0cb5713fc8766719245ab438797c4fd30b3fbbbf80f4e1c47624a374fc31ed1", func := "lattice/latticelaw5.OtsLengths", spec := "otsLengths", named := ["lattice/sha.firstState", "lattice/sha.roundWords"], apart := false, laid := [("lattice/sha.firstState", laid_lattice_sha_firstState), ("lattice/sha.roundWords", laid_lattice_sha_roundWords)] }
def OtsLengthsSaid : Prop := otsLengthsRow.holds Tryd.pinned (OpenSpec.ofChange otsLengthsSpec)

/-- ITS FALSE NEIGHBOUR: 'it returns false'. Refute it at one input. -/
def otsLengthsWrong : ChangeSpec := { name := "otsLengths", fn := fun _ => fun
  | [d1, d2, d3, d4, d5] => { results := [.lit (.bool false)], args := [d1, d2, d3, d4, d5] }
  | _ => none }
def OtsLengthsWrongFalsely : Prop := otsLengthsRow.holds Tryd.pinned (OpenSpec.ofChange otsLengthsWrong)

/-- 'latticelaw6.LmsKeys': WHATEVER THE INPUT: true; the input reads as it did. -/
def lmsKeysSpec : ChangeSpec := { name := "lmsKeys", fn := fun _ => fun
  | [d1, d2, d3] => { results := [.lit (.bool true)], args := [d1, d2, d3] }
  | _ => none }
def lmsKeysRow : OpenClaim := { program := "ytoebnkepeledmaadoor", sum := "d0cb5713fc8766719245ab438797c4fd30b3fbbbf80f4e1c47624a374fc31ed1", func := "lattice/latticelaw6.LmsKeys", spec := "lmsKeys", named := ["lattice/sha.firstState", "lattice/sha.roundWords"], apart := false, laid := [("lattice/sha.firstState", laid_lattice_sha_firstState), ("lattice/sha.roundWords", laid_lattice_sha_roundWords)] }
def LmsKeysSaid : Prop := lmsKeysRow.holds Tryd.pinned (OpenSpec.ofChange lmsKeysSpec)

/-- ITS FALSE NEIGHBOUR: 'it returns false'. Refute it at one input. -/
def lmsKeysWrong : ChangeSpec := { name := "lmsKeys", fn := fun _ => fun
  | [d1, d2, d3] => { results := [.lit (.bool false)], args := [d1, d2, d3] }
  | _ => none }
def LmsKeysWrongFalsely : Prop := lmsKeysRow.holds Tryd.pinned (OpenSpec.ofChange lmsKeysWrong)

/-- 'latticelaw6.LmsSigns': WHATEVER THE INPUT: true; the input reads as it did. -/
def lmsSignsSpec : ChangeSpec := { name := "lmsSigns", fn := fun _ => fun
  | [d1, d2, d3, d4, d5] => { results := [.lit (.bool true)], args := [d1, d2, d3, d4, d5] }
  | _ => none }
def lmsSignsRow : OpenClaim := { program := "ytoebnkepeledmaadoor", sum := "d0cb5713fc8766719245ab438797c4fd30b3fbbbf80f4e1c47624a374fc31ed1", func := "lattice/latticelaw6.LmsSigns", spec := "lmsSigns", named := ["lattice/sha.firstState", "lattice/sha.roundWords"], apart := false, laid := [("lattice/sha.firstState", laid_lattice_sha_firstState), ("lattice/sha.roundWords", laid_lattice_sha_roundWords)] }
def LmsSignsSaid : Prop := lmsSignsRow.holds Tryd.pinned (OpenSpec.ofChange lmsSignsSpec)

/-- ITS FALSE NEIGHBOUR: 'it returns false'. Refute it at one input. -/
def lmsSignsWrong : ChangeSpec := { name := "lmsSigns", fn := fun _ => fun
  | [d1, d2, d3, d4, d5] => { results := [.lit (.bool false)], args := [d1, d2, d3, d4, d5] }
  | _ => none }
def LmsSignsWrongFalsely : Prop := lmsSignsRow.holds Tryd.pinned (OpenSpec.ofChange lmsSignsWrong)

/-- 'latticelaw6.LmsChecks': WHATEVER THE INPUT: true; the input reads as it did. -/
def lmsChecksSpec : ChangeSpec := { name := "lmsChecks", fn := fun _ => fun
  | [d1, d2, d3, d4, d5, d6, d7, d8] => { results := [.lit (.bool true)], args := [d1, d2, d3, d4, d5, d6, d7, d8] }
  | _ => none }
def lmsChecksRow : OpenClaim := { program := "ytoebnkepeledmaadoor", sum := "d0cb5713fc8766719245ab438797c4fd30b3fbbbf80f4e1c47624a374fc31ed1", func := "lattice/latticelaw6.LmsChecks", spec := "lmsChecks", named := ["lattice/sha.firstState", "lattice/sha.roundWords"], apart := false, laid := [("lattice/sha.firstState", laid_lattice_sha_firstState), ("lattice/sha.roundWords", laid_lattice_sha_roundWords)] }
def LmsChecksSaid : Prop := lmsChecksRow.holds Tryd.pinned (OpenSpec.ofChange lmsChecksSpec)

/-- ITS FALSE NEIGHBOUR: 'it returns false'. Refute it at one input. -/
def lmsChecksWrong : ChangeSpec := { name := "lmsChecks", fn := fun _ => fun
  | [d1, d2, d3, d4, d5, d6, d7, d8] => { results := [.lit (.bool false)], args := [d1, d2, d3, d4, d5, d6, d7, d8] }
  | _ => none }
def LmsChecksWrongFalsely : Prop := lmsChecksRow.holds Tryd.pinned (OpenSpec.ofChange lmsChecksWrong)

/-- 'latticelaw6.LmsOthers': WHATEVER THE INPUT: true; the input reads as it did. -/
def lmsOthersSpec : ChangeSpec := { name := "lmsOthers", fn := fun _ => fun
  | [d1, d2, d3, d4, d5] => { results := [.lit (.bool true)], args := [d1, d2, d3, d4, d5] }
  | _ => none }
def lmsOthersRow : OpenClaim := { program := "ytoebnkepeledmaadoor", sum := "d0cb5713fc8766719245ab438797c4fd30b3fbbbf80f4e1c47624a374fc31ed1", func := "lattice/latticelaw6.LmsOthers", spec := "lmsOthers", named := ["lattice/sha.firstState", "lattice/sha.roundWords"], apart := false, laid := [("lattice/sha.firstState", laid_lattice_sha_firstState), ("lattice/sha.roundWords", laid_lattice_sha_roundWords)] }
def LmsOthersSaid : Prop := lmsOthersRow.holds Tryd.pinned (OpenSpec.ofChange lmsOthersSpec)

/-- ITS FALSE NEIGHBOUR: 'it returns false'. Refute it at one input. -/
def lmsOthersWrong : ChangeSpec := { name := "lmsOthers", fn := fun _ => fun
  | [d1, d2, d3, d4, d5] => { results := [.lit (.bool false)], args := [d1, d2, d3, d4, d5] }
  | _ => none }
def LmsOthersWrongFalsely : Prop := lmsOthersRow.holds Tryd.pinned (OpenSpec.ofChange lmsOthersWrong)

/-- 'latticelaw6.LmsLeaves': WHATEVER THE INPUT: true; the input reads as it did. -/
def lmsLeavesSpec : ChangeSpec := { name := "lmsLeaves", fn := fun _ => fun
  | [d1, d2, d3, d4] => { results := [.lit (.bool true)], args := [d1, d2, d3, d4] }
  | _ => none }
def lmsLeavesRow : OpenClaim := { program := "ytoebnkepeledmaadoor", sum := "d0cb5713fc8766719245ab438797c4fd30b3fbbbf80f4e1c47624a374fc31ed1", func := "lattice/latticelaw6.LmsLeaves", spec := "lmsLeaves", named := ["lattice/sha.firstState", "lattice/sha.roundWords"], apart := false, laid := [("lattice/sha.firstState", laid_lattice_sha_firstState), ("lattice/sha.roundWords", laid_lattice_sha_roundWords)] }
def LmsLeavesSaid : Prop := lmsLeavesRow.holds Tryd.pinned (OpenSpec.ofChange lmsLeavesSpec)

/-- ITS FALSE NEIGHBOUR: 'it returns false'. Refute it at one input. -/
def lmsLeavesWrong : ChangeSpec := { name := "lmsLeaves", fn := fun _ => fun
  | [d1, d2, d3, d4] => { results := [.lit (.bool false)], args := [d1, d2, d3, d4] }
  | _ => none }
def LmsLeavesWrongFalsely : Prop := lmsLeavesRow.holds Tryd.pinned (OpenSpec.ofChange lmsLeavesWrong)

/-- 'latticelaw6.LmsForms': WHATEVER THE INPUT: true; the input reads as it did. -/
def lmsFormsSpec : ChangeSpec := { name := "lmsForms", fn := fun _ => fun
  | [d1, d2, d3, d4] => { results := [.lit (.bool true)], args := [d1, d2, d3, d4] }
  | _ => none }
def lmsFormsRow : OpenClaim := { program := "ytoebnkepeledmaadoor", sum := "d0cb5713fc8766719245ab438797c4fd30b3fbbbf80f4e1c47624a374fc31ed1", func := "lattice/latticelaw6.LmsForms", spec := "lmsForms", named := ["lattice/sha.firstState", "lattice/sha.roundWords"], apart := false, laid := [("lattice/sha.firstState", laid_lattice_sha_firstState), ("lattice/sha.roundWords", laid_lattice_sha_roundWords)] }
def LmsFormsSaid : Prop := lmsFormsRow.holds Tryd.pinned (OpenSpec.ofChange lmsFormsSpec)

/-- ITS FALSE NEIGHBOUR: 'it returns false'. Refute it at one input. -/
def lmsFormsWrong : ChangeSpec := { name := "lmsForms", fn := fun _ => fun
  | [d1, d2, d3, d4] => { results := [.lit (.bool false)], args := [d1, d2, d3, d4] }
  | _ => none }
def LmsFormsWrongFalsely : Prop := lmsFormsRow.holds Tryd.pinned (OpenSpec.ofChange lmsFormsWrong)

/- THE SECOND FORM. 'bulk': how many values and letters a reading holds, each counted each time it is reached (what is shared counts as often as it is met; a slice's spare places count too). A statement '..UptoSaid' is the law's where the arguments, and the package variables that the reading takes, are together of bulk at most 1048576: NARROWER than '..Said'. Prove '..Said' where nothing that the law and all that it calls make is longer than what came in: it says more and counts as full. Else prove '..UptoSaid'. A law counts once. -/
mutual
def uptoBulk {H : Type} : DataW H → Nat
  | .lit (.string bytes) => bytes.length + 1
  | .lit _ => 1
  | .nil => 1
  | .ptr d => uptoBulk d + 1
  | .slice elems spare => uptoBulkAll elems + uptoBulkAll spare + 1
  | .agg parts => uptoBulkAll parts + 1
  | .iface _ d => uptoBulk d + 1
  | .map entries => uptoBulkEntries entries + 1
  | .held _ => 1
def uptoBulkAll {H : Type} : List (DataW H) → Nat
  | [] => 0
  | d :: r => uptoBulk d + uptoBulkAll r
def uptoBulkEntries {H : Type} : List (Lit × DataW H) → Nat
  | [] => 0
  | x :: r => uptoBulkEntry x + uptoBulkEntries r
def uptoBulkEntry {H : Type} : Lit × DataW H → Nat
  | (.string bytes, d) => bytes.length + uptoBulk d + 1
  | (_, d) => uptoBulk d + 1
 end
def uptoSmall : (H : Type) → List (DataW H) → Bool := fun _ ds => decide (uptoBulkAll ds ≤ 1048576)
def OpenSpec.upto (s : _root_.Go.ChangeSpec) : _root_.Go.OpenSpec := { _root_.Go.OpenSpec.ofChange s with cond := some uptoSmall }

/-- 'latticelaw5.OtsKeys', WHERE WHAT IT READS IS OF BULK AT MOST 1048576: true; the input reads as it did. -/
def otsKeysUptoRow : OpenClaim := { program := "ytoebnkepeledmaadoor", sum := "d0cb5713fc8766719245ab438797c4fd30b3fbbbf80f4e1c47624a374fc31ed1", func := "lattice/latticelaw5.OtsKeys", spec := "otsKeys", named := ["lattice/sha.firstState", "lattice/sha.roundWords"], apart := false, laid := [("lattice/sha.firstState", laid_lattice_sha_firstState), ("lattice/sha.roundWords", laid_lattice_sha_roundWords)], narrowed := true }
def OtsKeysUptoSaid : Prop := otsKeysUptoRow.holds Tryd.pinned (OpenSpec.upto otsKeysSpec)

/-- 'latticelaw5.OtsSigns', WHERE WHAT IT READS IS OF BULK AT MOST 1048576: true; the input reads as it did. -/
def otsSignsUptoRow : OpenClaim := { program := "ytoebnkepeledmaadoor", sum := "d0cb5713fc8766719245ab438797c4fd30b3fbbbf80f4e1c47624a374fc31ed1", func := "lattice/latticelaw5.OtsSigns", spec := "otsSigns", named := ["lattice/sha.firstState", "lattice/sha.roundWords"], apart := false, laid := [("lattice/sha.firstState", laid_lattice_sha_firstState), ("lattice/sha.roundWords", laid_lattice_sha_roundWords)], narrowed := true }
def OtsSignsUptoSaid : Prop := otsSignsUptoRow.holds Tryd.pinned (OpenSpec.upto otsSignsSpec)

/-- 'latticelaw5.OtsBacks', WHERE WHAT IT READS IS OF BULK AT MOST 1048576: true; the input reads as it did. -/
def otsBacksUptoRow : OpenClaim := { program := "ytoebnkepeledmaadoor", sum := "d0cb5713fc8766719245ab438797c4fd30b3fbbbf80f4e1c47624a374fc31ed1", func := "lattice/latticelaw5.OtsBacks", spec := "otsBacks", named := ["lattice/sha.firstState", "lattice/sha.roundWords"], apart := false, laid := [("lattice/sha.firstState", laid_lattice_sha_firstState), ("lattice/sha.roundWords", laid_lattice_sha_roundWords)], narrowed := true }
def OtsBacksUptoSaid : Prop := otsBacksUptoRow.holds Tryd.pinned (OpenSpec.upto otsBacksSpec)

/-- 'latticelaw5.OtsApart', WHERE WHAT IT READS IS OF BULK AT MOST 1048576: true; the input reads as it did. -/
def otsApartUptoRow : OpenClaim := { program := "ytoebnkepeledmaadoor", sum := "d0cb5713fc8766719245ab438797c4fd30b3fbbbf80f4e1c47624a374fc31ed1", func := "lattice/latticelaw5.OtsApart", spec := "otsApart", named := ["lattice/sha.firstState", "lattice/sha.roundWords"], apart := false, laid := [("lattice/sha.firstState", laid_lattice_sha_firstState), ("lattice/sha.roundWords", laid_lattice_sha_roundWords)], narrowed := true }
def OtsApartUptoSaid : Prop := otsApartUptoRow.holds Tryd.pinned (OpenSpec.upto otsApartSpec)

/-- 'latticelaw5.OtsLengths', WHERE WHAT IT READS IS OF BULK AT MOST 1048576: true; the input reads as it did. -/
def otsLengthsUptoRow : OpenClaim := { program := "ytoebnkepeledmaadoor", sum := "d0cb5713fc8766719245ab438797c4fd30b3fbbbf80f4e1c47624a374fc31ed1", func := "lattice/latticelaw5.OtsLengths", spec := "otsLengths", named := ["lattice/sha.firstState", "lattice/sha.roundWords"], apart := false, laid := [("lattice/sha.firstState", laid_lattice_sha_firstState), ("lattice/sha.roundWords", laid_lattice_sha_roundWords)], narrowed := true }
def OtsLengthsUptoSaid : Prop := otsLengthsUptoRow.holds Tryd.pinned (OpenSpec.upto otsLengthsSpec)

/-- 'latticelaw6.LmsKeys', WHERE WHAT IT READS IS OF BULK AT MOST 1048576: true; the input reads as it did. -/
def lmsKeysUptoRow : OpenClaim := { program := "ytoebnkepeledmaadoor", sum := "d0cb5713fc8766719245ab438797c4fd30b3fbbbf80f4e1c47624a374fc31ed1", func := "lattice/latticelaw6.LmsKeys", spec := "lmsKeys", named := ["lattice/sha.firstState", "lattice/sha.roundWords"], apart := false, laid := [("lattice/sha.firstState", laid_lattice_sha_firstState), ("lattice/sha.roundWords", laid_lattice_sha_roundWords)], narrowed := true }
def LmsKeysUptoSaid : Prop := lmsKeysUptoRow.holds Tryd.pinned (OpenSpec.upto lmsKeysSpec)

/-- 'latticelaw6.LmsSigns', WHERE WHAT IT READS IS OF BULK AT MOST 1048576: true; the input reads as it did. -/
def lmsSignsUptoRow : OpenClaim := { program := "ytoebnkepeledmaadoor", sum := "d0cb5713fc8766719245ab438797c4fd30b3fbbbf80f4e1c47624a374fc31ed1", func := "lattice/latticelaw6.LmsSigns", spec := "lmsSigns", named := ["lattice/sha.firstState", "lattice/sha.roundWords"], apart := false, laid := [("lattice/sha.firstState", laid_lattice_sha_firstState), ("lattice/sha.roundWords", laid_lattice_sha_roundWords)], narrowed := true }
def LmsSignsUptoSaid : Prop := lmsSignsUptoRow.holds Tryd.pinned (OpenSpec.upto lmsSignsSpec)

/-- 'latticelaw6.LmsChecks', WHERE WHAT IT READS IS OF BULK AT MOST 1048576: true; the input reads as it did. -/
def lmsChecksUptoRow : OpenClaim := { program := "ytoebnkepeledmaadoor", sum := "d0cb5713fc8766719245ab438797c4fd30b3fbbbf80f4e1c47624a374fc31ed1", func := "lattice/latticelaw6.LmsChecks", spec := "lmsChecks", named := ["lattice/sha.firstState", "lattice/sha.roundWords"], apart := false, laid := [("lattice/sha.firstState", laid_lattice_sha_firstState), ("lattice/sha.roundWords", laid_lattice_sha_roundWords)], narrowed := true }
def LmsChecksUptoSaid : Prop := lmsChecksUptoRow.holds Tryd.pinned (OpenSpec.upto lmsChecksSpec)

/-- 'latticelaw6.LmsOthers', WHERE WHAT IT READS IS OF BULK AT MOST 1048576: true; the input reads as it did. -/
def lmsOthersUptoRow : OpenClaim := { program := "ytoebnkepeledmaadoor", sum := "d0cb5713fc8766719245ab438797c4fd30b3fbbbf80f4e1c47624a374fc31ed1", func := "lattice/latticelaw6.LmsOthers", spec := "lmsOthers", named := ["lattice/sha.firstState", "lattice/sha.roundWords"], apart := false, laid := [("lattice/sha.firstState", laid_lattice_sha_firstState), ("lattice/sha.roundWords", laid_lattice_sha_roundWords)], narrowed := true }
def LmsOthersUptoSaid : Prop := lmsOthersUptoRow.holds Tryd.pinned (OpenSpec.upto lmsOthersSpec)

/-- 'latticelaw6.LmsLeaves', WHERE WHAT IT READS IS OF BULK AT MOST 1048576: true; the input reads as it did. -/
def lmsLeavesUptoRow : OpenClaim := { program := "ytoebnkepeledmaadoor", sum := "d0cb5713fc8766719245ab438797c4fd30b3fbbbf80f4e1c47624a374fc31ed1", func := "lattice/latticelaw6.LmsLeaves", spec := "lmsLeaves", named := ["lattice/sha.firstState", "lattice/sha.roundWords"], apart := false, laid := [("lattice/sha.firstState", laid_lattice_sha_firstState), ("lattice/sha.roundWords", laid_lattice_sha_roundWords)], narrowed := true }
def LmsLeavesUptoSaid : Prop := lmsLeavesUptoRow.holds Tryd.pinned (OpenSpec.upto lmsLeavesSpec)

/-- 'latticelaw6.LmsForms', WHERE WHAT IT READS IS OF BULK AT MOST 1048576: true; the input reads as it did. -/
def lmsFormsUptoRow : OpenClaim := { program := "ytoebnkepeledmaadoor", sum := "d0cb5713fc8766719245ab438797c4fd30b3fbbbf80f4e1c47624a374fc31ed1", func := "lattice/latticelaw6.LmsForms", spec := "lmsForms", named := ["lattice/sha.firstState", "lattice/sha.roundWords"], apart := false, laid := [("lattice/sha.firstState", laid_lattice_sha_firstState), ("lattice/sha.roundWords", laid_lattice_sha_roundWords)], narrowed := true }
def LmsFormsUptoSaid : Prop := lmsFormsUptoRow.holds Tryd.pinned (OpenSpec.upto lmsFormsSpec)

end Rows
end Go.Proofs.YtoebnkepeledmaaDoor
