/-
  DERIVED. GIVEN WITH THE SEED: THE CARDS: each row of YtoebnkepeledmaaDoorRows.lean that lists a variable, with what it lists TIED to the program's text (the seventh form; the later family's looks); each row that meets fmt, with fmt's text TOLD by the authors' own Lean function (tested against real Go, not proved from fmt's source: count such statements apart). THE CARD IS WHAT COUNTS. Prove the row's statement (the work); the ties are given (YtoebnkepeledmaaDoorTie.lean); close each card by the builder's one call (the guide's Derived/Test/ToyasCard.lean, 'card_holds'). Laid BY PROGRAM, IN A SANDBOX (cutbox-door.mjs). By AI agents, Wed Nov 11 2026. No macro, syntax, notation, axiom, sorry.
-/
import Derived.Test.YtoebnkepeledmaaDoorRows
import GoSem.ClaimSeven
namespace Go.Proofs.YtoebnkepeledmaaDoor
namespace Rows

/-- THE TIED CARD OF 'latticelaw5.OtsKeys'. -/
def otsKeysCard : Claim7 := { stood := { row := otsKeysRow, standIns := [], harness := (true, "a3bf857e86f25debcc46bc791de5fc240c693c40eb7e6f7bf8d266849e963d60"), looks := false }, kinds := [], alts := [], laidByText := true, laidKinds := [.data, .data], laidTests := true, laidLooks := .later }
def OtsKeysCardSaid : Prop := Claim7.holds Tryd.pinned (.plain (OpenSpec.ofChange otsKeysSpec)) otsKeysCard

/-- THE TIED CARD OF 'latticelaw5.OtsSigns'. -/
def otsSignsCard : Claim7 := { stood := { row := otsSignsRow, standIns := [], harness := (true, "a3bf857e86f25debcc46bc791de5fc240c693c40eb7e6f7bf8d266849e963d60"), looks := false }, kinds := [], alts := [], laidByText := true, laidKinds := [.data, .data], laidTests := true, laidLooks := .later }
def OtsSignsCardSaid : Prop := Claim7.holds Tryd.pinned (.plain (OpenSpec.ofChange otsSignsSpec)) otsSignsCard

/-- THE TIED CARD OF 'latticelaw5.OtsBacks'. -/
def otsBacksCard : Claim7 := { stood := { row := otsBacksRow, standIns := [], harness := (true, "a3bf857e86f25debcc46bc791de5fc240c693c40eb7e6f7bf8d266849e963d60"), looks := false }, kinds := [], alts := [], laidByText := true, laidKinds := [.data, .data], laidTests := true, laidLooks := .later }
def OtsBacksCardSaid : Prop := Claim7.holds Tryd.pinned (.plain (OpenSpec.ofChange otsBacksSpec)) otsBacksCard

/-- THE TIED CARD OF 'latticelaw5.OtsApart'. -/
def otsApartCard : Claim7 := { stood := { row := otsApartRow, standIns := [], harness := (true, "a3bf857e86f25debcc46bc791de5fc240c693c40eb7e6f7bf8d266849e963d60"), looks := false }, kinds := [], alts := [], laidByText := true, laidKinds := [.data, .data], laidTests := true, laidLooks := .later }
def OtsApartCardSaid : Prop := Claim7.holds Tryd.pinned (.plain (OpenSpec.ofChange otsApartSpec)) otsApartCard

/-- THE TIED CARD OF 'latticelaw5.OtsLengths'. -/
def otsLengthsCard : Claim7 := { stood := { row := otsLengthsRow, standIns := [], harness := (true, "a3bf857e86f25debcc46bc791de5fc240c693c40eb7e6f7bf8d266849e963d60"), looks := false }, kinds := [], alts := [], laidByText := true, laidKinds := [.data, .data], laidTests := true, laidLooks := .later }
def OtsLengthsCardSaid : Prop := Claim7.holds Tryd.pinned (.plain (OpenSpec.ofChange otsLengthsSpec)) otsLengthsCard

/-- THE TIED CARD OF 'latticelaw6.LmsKeys'. -/
def lmsKeysCard : Claim7 := { stood := { row := lmsKeysRow, standIns := [], harness := (true, "a3bf857e86f25debcc46bc791de5fc240c693c40eb7e6f7bf8d266849e963d60"), looks := false }, kinds := [], alts := [], laidByText := true, laidKinds := [.data, .data], laidTests := true, laidLooks := .later }
def LmsKeysCardSaid : Prop := Claim7.holds Tryd.pinned (.plain (OpenSpec.ofChange lmsKeysSpec)) lmsKeysCard

/-- THE TIED CARD OF 'latticelaw6.LmsSigns'. -/
def lmsSignsCard : Claim7 := { stood := { row := lmsSignsRow, standIns := [], harness := (true, "a3bf857e86f25debcc46bc791de5fc240c693c40eb7e6f7bf8d266849e963d60"), looks := false }, kinds := [], alts := [], laidByText := true, laidKinds := [.data, .data], laidTests := true, laidLooks := .later }
def LmsSignsCardSaid : Prop := Claim7.holds Tryd.pinned (.plain (OpenSpec.ofChange lmsSignsSpec)) lmsSignsCard

/-- THE TIED CARD OF 'latticelaw6.LmsChecks'. -/
def lmsChecksCard : Claim7 := { stood := { row := lmsChecksRow, standIns := [], harness := (true, "a3bf857e86f25debcc46bc791de5fc240c693c40eb7e6f7bf8d266849e963d60"), looks := false }, kinds := [], alts := [], laidByText := true, laidKinds := [.data, .data], laidTests := true, laidLooks := .later }
def LmsChecksCardSaid : Prop := Claim7.holds Tryd.pinned (.plain (OpenSpec.ofChange lmsChecksSpec)) lmsChecksCard

/-- THE TIED CARD OF 'latticelaw6.LmsOthers'. -/
def lmsOthersCard : Claim7 := { stood := { row := lmsOthersRow, standIns := [], harness := (true, "a3bf857e86f25debcc46bc791de5fc240c693c40eb7e6f7bf8d266849e963d60"), looks := false }, kinds := [], alts := [], laidByText := true, laidKinds := [.data, .data], laidTests := true, laidLooks := .later }
def LmsOthersCardSaid : Prop := Claim7.holds Tryd.pinned (.plain (OpenSpec.ofChange lmsOthersSpec)) lmsOthersCard

/-- THE TIED CARD OF 'latticelaw6.LmsLeaves'. -/
def lmsLeavesCard : Claim7 := { stood := { row := lmsLeavesRow, standIns := [], harness := (true, "a3bf857e86f25debcc46bc791de5fc240c693c40eb7e6f7bf8d266849e963d60"), looks := false }, kinds := [], alts := [], laidByText := true, laidKinds := [.data, .data], laidTests := true, laidLooks := .later }
def LmsLeavesCardSaid : Prop := Claim7.holds Tryd.pinned (.plain (OpenSpec.ofChange lmsLeavesSpec)) lmsLeavesCard

/-- THE TIED CARD OF 'latticelaw6.LmsForms'. -/
def lmsFormsCard : Claim7 := { stood := { row := lmsFormsRow, standIns := [], harness := (true, "a3bf857e86f25debcc46bc791de5fc240c693c40eb7e6f7bf8d266849e963d60"), looks := false }, kinds := [], alts := [], laidByText := true, laidKinds := [.data, .data], laidTests := true, laidLooks := .later }
def LmsFormsCardSaid : Prop := Claim7.holds Tryd.pinned (.plain (OpenSpec.ofChange lmsFormsSpec)) lmsFormsCard

/-- THE SECOND FORM's CARD OF 'latticelaw5.OtsKeys'. -/
def otsKeysUptoCard : Claim7 := { stood := { row := otsKeysUptoRow, standIns := [], harness := (true, "a3bf857e86f25debcc46bc791de5fc240c693c40eb7e6f7bf8d266849e963d60"), looks := false }, kinds := [], alts := [], laidByText := true, laidKinds := [.data, .data], laidTests := true, laidLooks := .later }
def OtsKeysUptoCardSaid : Prop := Claim7.holds Tryd.pinned (.plain (OpenSpec.upto otsKeysSpec)) otsKeysUptoCard

/-- THE SECOND FORM's CARD OF 'latticelaw5.OtsSigns'. -/
def otsSignsUptoCard : Claim7 := { stood := { row := otsSignsUptoRow, standIns := [], harness := (true, "a3bf857e86f25debcc46bc791de5fc240c693c40eb7e6f7bf8d266849e963d60"), looks := false }, kinds := [], alts := [], laidByText := true, laidKinds := [.data, .data], laidTests := true, laidLooks := .later }
def OtsSignsUptoCardSaid : Prop := Claim7.holds Tryd.pinned (.plain (OpenSpec.upto otsSignsSpec)) otsSignsUptoCard

/-- THE SECOND FORM's CARD OF 'latticelaw5.OtsBacks'. -/
def otsBacksUptoCard : Claim7 := { stood := { row := otsBacksUptoRow, standIns := [], harness := (true, "a3bf857e86f25debcc46bc791de5fc240c693c40eb7e6f7bf8d266849e963d60"), looks := false }, kinds := [], alts := [], laidByText := true, laidKinds := [.data, .data], laidTests := true, laidLooks := .later }
def OtsBacksUptoCardSaid : Prop := Claim7.holds Tryd.pinned (.plain (OpenSpec.upto otsBacksSpec)) otsBacksUptoCard

/-- THE SECOND FORM's CARD OF 'latticelaw5.OtsApart'. -/
def otsApartUptoCard : Claim7 := { stood := { row := otsApartUptoRow, standIns := [], harness := (true, "a3bf857e86f25debcc46bc791de5fc240c693c40eb7e6f7bf8d266849e963d60"), looks := false }, kinds := [], alts := [], laidByText := true, laidKinds := [.data, .data], laidTests := true, laidLooks := .later }
def OtsApartUptoCardSaid : Prop := Claim7.holds Tryd.pinned (.plain (OpenSpec.upto otsApartSpec)) otsApartUptoCard

/-- THE SECOND FORM's CARD OF 'latticelaw5.OtsLengths'. -/
def otsLengthsUptoCard : Claim7 := { stood := { row := otsLengthsUptoRow, standIns := [], harness := (true, "a3bf857e86f25debcc46bc791de5fc240c693c40eb7e6f7bf8d266849e963d60"), looks := false }, kinds := [], alts := [], laidByText := true, laidKinds := [.data, .data], laidTests := true, laidLooks := .later }
def OtsLengthsUptoCardSaid : Prop := Claim7.holds Tryd.pinned (.plain (OpenSpec.upto otsLengthsSpec)) otsLengthsUptoCard

/-- THE SECOND FORM's CARD OF 'latticelaw6.LmsKeys'. -/
def lmsKeysUptoCard : Claim7 := { stood := { row := lmsKeysUptoRow, standIns := [], harness := (true, "a3bf857e86f25debcc46bc791de5fc240c693c40eb7e6f7bf8d266849e963d60"), looks := false }, kinds := [], alts := [], laidByText := true, laidKinds := [.data, .data], laidTests := true, laidLooks := .later }
def LmsKeysUptoCardSaid : Prop := Claim7.holds Tryd.pinned (.plain (OpenSpec.upto lmsKeysSpec)) lmsKeysUptoCard

/-- THE SECOND FORM's CARD OF 'latticelaw6.LmsSigns'. -/
def lmsSignsUptoCard : Claim7 := { stood := { row := lmsSignsUptoRow, standIns := [], harness := (true, "a3bf857e86f25debcc46bc791de5fc240c693c40eb7e6f7bf8d266849e963d60"), looks := false }, kinds := [], alts := [], laidByText := true, laidKinds := [.data, .data], laidTests := true, laidLooks := .later }
def LmsSignsUptoCardSaid : Prop := Claim7.holds Tryd.pinned (.plain (OpenSpec.upto lmsSignsSpec)) lmsSignsUptoCard

/-- THE SECOND FORM's CARD OF 'latticelaw6.LmsChecks'. -/
def lmsChecksUptoCard : Claim7 := { stood := { row := lmsChecksUptoRow, standIns := [], harness := (true, "a3bf857e86f25debcc46bc791de5fc240c693c40eb7e6f7bf8d266849e963d60"), looks := false }, kinds := [], alts := [], laidByText := true, laidKinds := [.data, .data], laidTests := true, laidLooks := .later }
def LmsChecksUptoCardSaid : Prop := Claim7.holds Tryd.pinned (.plain (OpenSpec.upto lmsChecksSpec)) lmsChecksUptoCard

/-- THE SECOND FORM's CARD OF 'latticelaw6.LmsOthers'. -/
def lmsOthersUptoCard : Claim7 := { stood := { row := lmsOthersUptoRow, standIns := [], harness := (true, "a3bf857e86f25debcc46bc791de5fc240c693c40eb7e6f7bf8d266849e963d60"), looks := false }, kinds := [], alts := [], laidByText := true, laidKinds := [.data, .data], laidTests := true, laidLooks := .later }
def LmsOthersUptoCardSaid : Prop := Claim7.holds Tryd.pinned (.plain (OpenSpec.upto lmsOthersSpec)) lmsOthersUptoCard

/-- THE SECOND FORM's CARD OF 'latticelaw6.LmsLeaves'. -/
def lmsLeavesUptoCard : Claim7 := { stood := { row := lmsLeavesUptoRow, standIns := [], harness := (true, "a3bf857e86f25debcc46bc791de5fc240c693c40eb7e6f7bf8d266849e963d60"), looks := false }, kinds := [], alts := [], laidByText := true, laidKinds := [.data, .data], laidTests := true, laidLooks := .later }
def LmsLeavesUptoCardSaid : Prop := Claim7.holds Tryd.pinned (.plain (OpenSpec.upto lmsLeavesSpec)) lmsLeavesUptoCard

/-- THE SECOND FORM's CARD OF 'latticelaw6.LmsForms'. -/
def lmsFormsUptoCard : Claim7 := { stood := { row := lmsFormsUptoRow, standIns := [], harness := (true, "a3bf857e86f25debcc46bc791de5fc240c693c40eb7e6f7bf8d266849e963d60"), looks := false }, kinds := [], alts := [], laidByText := true, laidKinds := [.data, .data], laidTests := true, laidLooks := .later }
def LmsFormsUptoCardSaid : Prop := Claim7.holds Tryd.pinned (.plain (OpenSpec.upto lmsFormsSpec)) lmsFormsUptoCard
end Rows
end Go.Proofs.YtoebnkepeledmaaDoor
