/- The program's reader of patterns as plain functions (a mirror of the program, grammar.go): each function of a reader's state. Nothing of the program is proved here. -/
import Derived.Test.YtagehbmipookbaaGreatDoorRd
import Derived.Laws.Cover4
namespace Go.Proofs.YtagehbmipookbaaGreatDoor
set_option linter.unusedVariables false
set_option maxRecDepth 100000

def lDigits : List UInt8 := [48, 49, 50, 51, 52, 53, 54, 55, 56, 57]
def lComma : List UInt8 := [44]
def lBrace : List UInt8 := [125]
def lOpenBrace : List UInt8 := [123]
def lNotOne : List UInt8 := [92, 91, 93, 94, 45]
def lMarks : List UInt8 := [46, 94, 36, 124, 63, 42, 43, 40, 41, 91, 93, 123, 125, 45, 47, 92, 110, 116, 114]
def lEscape : List UInt8 := [46, 94, 36, 124, 63, 42, 43, 40, 41, 91, 93, 123, 125, 45, 47, 92, 110, 116, 114, 100, 68, 119, 87, 115, 83, 98, 66]
def lBack : List UInt8 := [92]
def lSets : List UInt8 := [100, 119, 115]
def lDash : List UInt8 := [45]
def lCaret : List UInt8 := [94]
def lSquare : List UInt8 := [93]
def lOpenSquare : List UInt8 := [91]
def lLetters : List UInt8 := [97, 98, 99, 100, 101, 102, 103, 104, 105, 106, 107, 108, 109, 110, 111, 112, 113, 114, 115, 116, 117, 118, 119, 120, 121, 122]
def lGreater : List UInt8 := [62]
def lLess : List UInt8 := [60]
def lQuery : List UInt8 := [63]
def lStar : List UInt8 := [42]
def lPlus : List UInt8 := [43]
def lBar : List UInt8 := [124]
def lRound : List UInt8 := [41]
def lOpenRound : List UInt8 := [40]
def lBarRound : List UInt8 := [124, 41]
def lI : List UInt8 := [105]
def lColon : List UInt8 := [58]
def lSingles : List UInt8 := [46, 94, 36]
def lNotPlain : List UInt8 := [92, 46, 94, 36, 124, 63, 42, 43, 40, 41, 91, 123]

def pDigit (g : RG) (st : RS) : RS × Int := if inSet lDigits (seeOf g st) then ({ st with next := st.next + 1 }, seeOf g st - 48) else (refuseOf g st, 0)
def pNumber (g : RG) (st : RS) : RS × Int :=
  if 0 < (pDigit g st).2 ∧ inSet lDigits (seeOf g (pDigit g st).1) = true then ((pDigit g (pDigit g st).1).1, 10 * (pDigit g st).2 + (pDigit g (pDigit g st).1).2) else pDigit g st
/-- behind the comma -/
def pHigh (g : RG) (st : RS) : RS × Int := if inSet lBrace (seeOf g st) then (st, -1) else pNumber g st
def pBounds (g : RG) (st : RS) : RS × Int × Int :=
  if inSet lComma (seeOf g (pNumber g st).1) then
    (needSt g lBrace (pHigh g { (pNumber g st).1 with next := (pNumber g st).1.next + 1 }).1, (pNumber g st).2, (pHigh g { (pNumber g st).1 with next := (pNumber g st).1.next + 1 }).2)
  else (needSt g lBrace (pNumber g st).1, (pNumber g st).2, (pNumber g st).2)

def escRune (c : Int) : Int := if c = 110 then 10 else if c = 116 then 9 else if c = 114 then 13 else c
def pOne (g : RG) (esc : Bool) (st : RS) : RS × Int := if esc then (needSt g lMarks st, escRune (seeOf g st)) else (needOtherSt g lNotOne st, seeOf g st)
/-- a ONE, its backslash not taken yet -/
def pOne' (g : RG) (st : RS) : RS × Int := pOne g (inSet lBack (seeOf g st)) (takeOf g lBack st)
/-- the rest of an item behind its first ONE -/
def pUpto (g : RG) (place : Int) (x : RS × Int) : RS :=
  if inSet lDash (seeOf g x.1) then
    if (pOne' g { x.1 with next := x.1.next + 1 }).2 < x.2 then (pOne' g { x.1 with next := x.1.next + 1 }).1.note 5 place else (pOne' g { x.1 with next := x.1.next + 1 }).1
  else x.1
def pItem (g : RG) (st : RS) : RS :=
  if inSet lBack (seeOf g st) = true ∧ inSet lSets (seeOf g { st with next := st.next + 1 }) = true then { st with next := st.next + 2 }
  else pUpto g (placeOf g st) (pOne' g st)
def pItems (g : RG) : Nat → RS → RS
  | 0, st => st
  | m + 1, st => if seeOf g st = -1 ∨ inSet lSquare (seeOf g st) = true then st else pItems g m (pItem g st)
def pClass (g : RG) (st : RS) : RS := needSt g lSquare (pItems g (g.rs.length + 1) (pItem g (takeOf g lCaret st)))

def pLetters (g : RG) (first : Nat) : Nat → RS → RS
  | 0, st => st
  | m + 1, st => if st.next < first + 8 ∧ inSet lLetters (seeOf g st) = true then pLetters g first m { st with next := st.next + 1 } else st
def runesToBytes (l : List Int) : List UInt8 := (runesBytes l).data.toList
def pNamed (g : RG) (first : Nat) (st : RS) : RS :=
  if st.names.any (fun p => p.1 == runesToBytes ((g.rs.take st.next).drop first)) then st.note 6 (g.ps.getD first 0)
  else { st with names := (runesToBytes ((g.rs.take st.next).drop first), st.groups) :: st.names }
def pName (g : RG) (st : RS) : RS := needSt g lGreater (pNamed g st.next (pLetters g st.next (g.rs.length + 9) (needSt g lLetters st)))

/-- a piece of a pattern, as the program keeps it -/
inductive PT where
  | node (kind : Int) (parts : List PT) (low high : Int) : PT

mutual
def PT.size : PT → Int
  | .node k ps lo hi =>
    let s := PT.sizes ps
    min (if k = 0 ∨ k = 1 then s + 1 else if k = 3 then s + (ps.length - 1 : Int) else if k = 4 then (if hi = -1 then lo + 1 else hi) * (s + 1) else s) 1001
def PT.sizes : List PT → Int
  | [] => 0
  | p :: ps => PT.size p + PT.sizes ps
end

/-- the times of an atom -/
def pRepeated (g : RG) (a : PT) (st : RS) : RS × PT :=
  if inSet lStar (seeOf g st) then (takeOf g lQuery { st with next := st.next + 1 }, .node 4 [a] 0 (-1))
  else if inSet lPlus (seeOf g st) then (takeOf g lQuery { st with next := st.next + 1 }, .node 4 [a] 1 (-1))
  else if inSet lQuery (seeOf g st) then (takeOf g lQuery { st with next := st.next + 1 }, .node 4 [a] 0 1)
  else if inSet lOpenBrace (seeOf g st) then
    let x := pBounds g { st with next := st.next + 1 }
    (takeOf g lQuery (if x.2.1 > 20 ∨ x.2.2 > 20 ∨ (x.2.2 ≠ -1 ∧ x.2.2 < x.2.1) then x.1.note 4 (placeOf g st) else x.1), .node 4 [a] x.2.1 x.2.2)
  else (st, a)

/-- behind a round bracket, ahead of what is in it -/
def pHead (g : RG) (st : RS) : RS :=
  if inSet lQuery (seeOf g st) = false then { st with groups := st.groups + 1 }
  else if inSet lLess (seeOf g { st with next := st.next + 1 }) then pName g { st with next := st.next + 2, groups := st.groups + 1 }
  else needSt g lColon (takeOf g lI { st with next := st.next + 1 })
def pBracket (g : RG) (alt : RS → RS × PT) (st : RS) : RS × PT := (needSt g lRound (alt (pHead g st)).1, .node 1 [(alt (pHead g st)).2] 0 0)
def single : PT := .node 0 [] 0 0
def pAtom (g : RG) (alt : RS → RS × PT) (st : RS) : RS × PT :=
  if inSet lOpenRound (seeOf g st) then pBracket g alt { st with next := st.next + 1 }
  else if inSet lOpenSquare (seeOf g st) then (pClass g { st with next := st.next + 1 }, single)
  else if inSet lBack (seeOf g st) then (needSt g lEscape { st with next := st.next + 1 }, single)
  else if inSet lSingles (seeOf g st) then ({ st with next := st.next + 1 }, single)
  else (needOtherSt g lNotPlain st, single)
def pSeqs (g : RG) (alt : RS → RS × PT) : Nat → RS → List PT → RS × List PT
  | 0, st, acc => (st, acc)
  | m + 1, st, acc =>
    if seeOf g st = -1 ∨ inSet lBarRound (seeOf g st) = true then (st, acc)
    else pSeqs g alt m (pRepeated g (pAtom g alt st).2 (pAtom g alt st).1).1 (acc ++ [(pRepeated g (pAtom g alt st).2 (pAtom g alt st).1).2])
def pSeq (g : RG) (alt : RS → RS × PT) (st : RS) : RS × PT := ((pSeqs g alt (g.rs.length + 1) st []).1, .node 2 (pSeqs g alt (g.rs.length + 1) st []).2 0 0)
def pAlts (g : RG) (alt : RS → RS × PT) : Nat → RS → List PT → RS × List PT
  | 0, st, acc => (st, acc)
  | m + 1, st, acc =>
    if inSet lBar (seeOf g st) then pAlts g alt m (pSeq g alt { st with next := st.next + 1 }).1 (acc ++ [(pSeq g alt { st with next := st.next + 1 }).2]) else (st, acc)
def pAlt (g : RG) : Nat → RS → RS × PT
  | 0, st => (st, single)
  | k + 1, st => ((pAlts g (pAlt g k) (g.rs.length + 1) (pSeq g (pAlt g k) st).1 [(pSeq g (pAlt g k) st).2]).1, .node 3 (pAlts g (pAlt g k) (g.rs.length + 1) (pSeq g (pAlt g k) st).1 [(pSeq g (pAlt g k) st).2]).2 0 0)
def pWhole (g : RG) (st : RS) : RS × PT :=
  if seeOf g (pAlt g (g.rs.length + 1) st).1 = -1 then pAlt g (g.rs.length + 1) st else (refuseOf g (pAlt g (g.rs.length + 1) st).1, (pAlt g (g.rs.length + 1) st).2)

/-! ## how far a state can be -/
structure Fwd (g : RG) (st st' : RS) : Prop where
  next : st.next ≤ st'.next
  le : st'.next ≤ g.rs.length

theorem seeOf_none {g : RG} {st : RS} (h : seeOf g st = -1) (hr : ∀ x ∈ g.rs, x ≠ -1) : g.rs.length ≤ st.next := by
  apply Decidable.byContradiction
  intro hn
  have hlt : st.next < g.rs.length := by omega
  have : seeOf g st = g.rs[st.next] := by simp [seeOf, List.getD, List.getElem?_eq_getElem hlt]
  exact hr _ (List.getElem_mem hlt) (this.symm.trans h)
theorem seeOf_end {g : RG} {st : RS} (h : g.rs.length ≤ st.next) : seeOf g st = -1 := by simp [seeOf, List.getD, List.getElem?_eq_none h]
theorem lt_of_see {g : RG} {st : RS} (h : seeOf g st ≠ -1) : st.next < g.rs.length := by
  apply Decidable.byContradiction
  intro hn
  exact h (seeOf_end (by omega))
theorem inSet_digits {r : Int} (h : inSet lDigits r = true) : 48 ≤ r ∧ r ≤ 57 := by
  simp [inSet, lDigits] at h
  omega
theorem inSet_end {l : List UInt8} : inSet l (-1) = false := by
  unfold inSet
  rw [List.any_eq_false]
  intro b _
  simp
end Go.Proofs.YtagehbmipookbaaGreatDoor
