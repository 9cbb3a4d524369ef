/-
  No cell of these rows narrows 'for every input' (looked for: loops, veiled, ifaces, maps, wideKeys, modest, calm, conditions, laid).
  DERIVED. THE GIVEN ROWS OF THIS SEAT. 3 by the template 'for every input the law returns true; each argument reads behind the call as it read before'; 0 by the template 'total and deterministic' (their statements: YtlibdcmcbinfnaaGreatTotals.lean).
  GIVEN WITH THE SEED: the statements are not yours to turn. If you find one false, say at which input.
  Laid BY PROGRAM, IN A SANDBOX (cutbox-rows.mjs): the forced cells as the released guide's own fill.sh prints them over the translation 9bc6b03d4141cc93… (all of the seat's roots in one cut). By AI agents, Wed Nov 11 2026. No macro, syntax, notation, axiom, sorry.
-/
import Derived.Test.YtlibdcmcbinfnaaGreatChecked
import GoSem.Claim
import GoSem.ClaimJoined
import GoSem.ClaimMapViews
import Derived.JoinedTies
import Derived.KernelRfl
namespace Go.Proofs.YtlibdcmcbinfnaaGreat
/- THE CELL 'sum', in the pinned program and in every row, IS THE sha256 OF THE DUMP (.gsa) THAT YtlibdcmcbinfnaaGreatProg.lean LOADS. Nothing in Lean hashes anything: it is a label: what it is worth is what the hold of that sum in a sandbox is worth. -/
noncomputable def Tryz.pinned : Pinned := { name := "ytlibdcmcbinfnaagreat", sum := "9bc6b03d4141cc9338955fc9d85523132da0525f6f6d13cdf494685dedbe3583", checked := Tryz.checked }
namespace Rows
def none {H : Type} : Left H := { results := [], args := [] }

/-- 'gessolaw13.ExtractPlays': WHATEVER THE INPUT: true; the input reads as it did. -/
def extractPlaysSpec : ChangeSpec := { name := "extractPlays", fn := fun _ => fun
  | [d] => { results := [.lit (.bool true)], args := [d] }
  | _ => none }
def extractPlaysRow : OpenClaim := { program := "ytlibdcmcbinfnaagreat", sum := "9bc6b03d4141cc9338955fc9d85523132da0525f6f6d13cdf494685dedbe3583", func := "gesso/gessolaw13.ExtractPlays", spec := "extractPlays", inPlace := ["slices.overlaps[gesso/api.ID]"], unfollowed := true, recurses := true, apart := false }
def ExtractPlaysSaid : Prop := extractPlaysRow.holds Tryz.pinned (OpenSpec.ofChange extractPlaysSpec)

/-- ITS FALSE NEIGHBOUR: 'it returns false'. Refute it at one input. -/
def extractPlaysWrong : ChangeSpec := { name := "extractPlays", fn := fun _ => fun
  | [d] => { results := [.lit (.bool false)], args := [d] }
  | _ => none }
def ExtractPlaysWrongFalsely : Prop := extractPlaysRow.holds Tryz.pinned (OpenSpec.ofChange extractPlaysWrong)

/-- 'gessolaw13.ExtractAnew': WHATEVER THE INPUT: true; the input reads as it did. -/
def extractAnewSpec : ChangeSpec := { name := "extractAnew", fn := fun _ => fun
  | [d] => { results := [.lit (.bool true)], args := [d] }
  | _ => none }
def extractAnewRow : OpenClaim := { program := "ytlibdcmcbinfnaagreat", sum := "9bc6b03d4141cc9338955fc9d85523132da0525f6f6d13cdf494685dedbe3583", func := "gesso/gessolaw13.ExtractAnew", spec := "extractAnew", inPlace := ["slices.overlaps[gesso/api.ID]"], unfollowed := true, recurses := true, apart := false }
def ExtractAnewSaid : Prop := extractAnewRow.holds Tryz.pinned (OpenSpec.ofChange extractAnewSpec)

/-- ITS FALSE NEIGHBOUR: 'it returns false'. Refute it at one input. -/
def extractAnewWrong : ChangeSpec := { name := "extractAnew", fn := fun _ => fun
  | [d] => { results := [.lit (.bool false)], args := [d] }
  | _ => none }
def ExtractAnewWrongFalsely : Prop := extractAnewRow.holds Tryz.pinned (OpenSpec.ofChange extractAnewWrong)

/-- 'gessolaw13.ExtractSlots': WHATEVER THE INPUT: true; the input reads as it did. -/
def extractSlotsSpec : ChangeSpec := { name := "extractSlots", fn := fun _ => fun
  | [d] => { results := [.lit (.bool true)], args := [d] }
  | _ => none }
def extractSlotsRow : OpenClaim := { program := "ytlibdcmcbinfnaagreat", sum := "9bc6b03d4141cc9338955fc9d85523132da0525f6f6d13cdf494685dedbe3583", func := "gesso/gessolaw13.ExtractSlots", spec := "extractSlots", inPlace := ["slices.overlaps[gesso/api.ID]"], unfollowed := true, recurses := true, apart := false }
def ExtractSlotsSaid : Prop := extractSlotsRow.holds Tryz.pinned (OpenSpec.ofChange extractSlotsSpec)

/-- ITS FALSE NEIGHBOUR: 'it returns false'. Refute it at one input. -/
def extractSlotsWrong : ChangeSpec := { name := "extractSlots", fn := fun _ => fun
  | [d] => { results := [.lit (.bool false)], args := [d] }
  | _ => none }
def ExtractSlotsWrongFalsely : Prop := extractSlotsRow.holds Tryz.pinned (OpenSpec.ofChange extractSlotsWrong)

/- THE SECOND FORM. 'bulk': how many values and letters a reading holds, each counted each time it is reached (what is shared counts as often as it is met; a slice's spare places count too). A statement '..UptoSaid' is the law's where the arguments, and the package variables that the reading takes, are together of bulk at most 1048576: NARROWER than '..Said'. Prove '..Said' where nothing that the law and all that it calls make is longer than what came in: it says more and counts as full. Else prove '..UptoSaid'. A law counts once. -/
mutual
def uptoBulk {H : Type} : DataW H → Nat
  | .lit (.string bytes) => bytes.length + 1
  | .lit _ => 1
  | .nil => 1
  | .ptr d => uptoBulk d + 1
  | .slice elems spare => uptoBulkAll elems + uptoBulkAll spare + 1
  | .agg parts => uptoBulkAll parts + 1
  | .iface _ d => uptoBulk d + 1
  | .map entries => uptoBulkEntries entries + 1
  | .held _ => 1
def uptoBulkAll {H : Type} : List (DataW H) → Nat
  | [] => 0
  | d :: r => uptoBulk d + uptoBulkAll r
def uptoBulkEntries {H : Type} : List (Lit × DataW H) → Nat
  | [] => 0
  | x :: r => uptoBulkEntry x + uptoBulkEntries r
def uptoBulkEntry {H : Type} : Lit × DataW H → Nat
  | (.string bytes, d) => bytes.length + uptoBulk d + 1
  | (_, d) => uptoBulk d + 1
 end
def uptoSmall : (H : Type) → List (DataW H) → Bool := fun _ ds => decide (uptoBulkAll ds ≤ 1048576)
def OpenSpec.upto (s : _root_.Go.ChangeSpec) : _root_.Go.OpenSpec := { _root_.Go.OpenSpec.ofChange s with cond := some uptoSmall }

/-- 'gessolaw13.ExtractPlays', WHERE WHAT IT READS IS OF BULK AT MOST 1048576: true; the input reads as it did. -/
def extractPlaysUptoRow : OpenClaim := { program := "ytlibdcmcbinfnaagreat", sum := "9bc6b03d4141cc9338955fc9d85523132da0525f6f6d13cdf494685dedbe3583", func := "gesso/gessolaw13.ExtractPlays", spec := "extractPlays", inPlace := ["slices.overlaps[gesso/api.ID]"], unfollowed := true, recurses := true, apart := false, narrowed := true }
def ExtractPlaysUptoSaid : Prop := extractPlaysUptoRow.holds Tryz.pinned (OpenSpec.upto extractPlaysSpec)

/-- 'gessolaw13.ExtractAnew', WHERE WHAT IT READS IS OF BULK AT MOST 1048576: true; the input reads as it did. -/
def extractAnewUptoRow : OpenClaim := { program := "ytlibdcmcbinfnaagreat", sum := "9bc6b03d4141cc9338955fc9d85523132da0525f6f6d13cdf494685dedbe3583", func := "gesso/gessolaw13.ExtractAnew", spec := "extractAnew", inPlace := ["slices.overlaps[gesso/api.ID]"], unfollowed := true, recurses := true, apart := false, narrowed := true }
def ExtractAnewUptoSaid : Prop := extractAnewUptoRow.holds Tryz.pinned (OpenSpec.upto extractAnewSpec)

/-- 'gessolaw13.ExtractSlots', WHERE WHAT IT READS IS OF BULK AT MOST 1048576: true; the input reads as it did. -/
def extractSlotsUptoRow : OpenClaim := { program := "ytlibdcmcbinfnaagreat", sum := "9bc6b03d4141cc9338955fc9d85523132da0525f6f6d13cdf494685dedbe3583", func := "gesso/gessolaw13.ExtractSlots", spec := "extractSlots", inPlace := ["slices.overlaps[gesso/api.ID]"], unfollowed := true, recurses := true, apart := false, narrowed := true }
def ExtractSlotsUptoSaid : Prop := extractSlotsUptoRow.holds Tryz.pinned (OpenSpec.upto extractSlotsSpec)

end Rows
end Go.Proofs.YtlibdcmcbinfnaaGreat
