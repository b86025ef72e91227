/- The document's tree of a pattern, as plain functions: what stands in each node. Nothing of the program is proved here. -/
import Derived.Test.YtagehbmipookbaaGreatDoorPm
namespace Go.Proofs.YtagehbmipookbaaGreatDoor
set_option linter.unusedVariables false
set_option maxRecDepth 100000

def sSeq : ByteArray := ⟨#[115, 101, 113]⟩
def sAlt : ByteArray := ⟨#[97, 108, 116]⟩
def sTimes : ByteArray := ⟨#[116, 105, 109, 101, 115]⟩
def sRune : ByteArray := ⟨#[114, 117, 110, 101]⟩
def sCaret : ByteArray := ⟨#[94]⟩
def sDollar : ByteArray := ⟨#[36]⟩
def sSmallB : ByteArray := ⟨#[98]⟩
def sBigB : ByteArray := ⟨#[66]⟩
def sGroup : ByteArray := ⟨#[103, 114, 111, 117, 112]⟩
def sBare : ByteArray := ⟨#[98, 97, 114, 101]⟩

/-- a node of the document's tree: its op, spans, not, fold, kids, group, least, most, lazy -/
inductive RT where
  | node (op : ByteArray) (sp : List (Int × Int)) (nt fd : Bool) (kids : List RT) (grp least most : Int) (lz : Bool) : RT

def rLeaf (op : ByteArray) (sp : List (Int × Int)) (nt fd : Bool) : RT := .node op sp nt fd [] 0 0 0 false
def letterSpans (r : Int) : List (Int × Int) :=
  if r = 100 ∨ r = 68 then [(48, 57)] else if r = 119 ∨ r = 87 then [(97, 122), (65, 90), (48, 57), (95, 95)] else [(9, 10), (13, 13), (32, 32)]
/-- the spans of an item of a class -/
def rItem (g : RG) (st : RS) : List (Int × Int) :=
  if inSet lBack (seeOf g st) = true ∧ inSet lSets (seeOf g { st with next := st.next + 1 }) = true then letterSpans (seeOf g { st with next := st.next + 1 })
  else [((pOne' g st).2, if inSet lDash (seeOf g (pOne' g st).1) then (pOne' g { (pOne' g st).1 with next := (pOne' g st).1.next + 1 }).2 else (pOne' g st).2)]
def rItems (g : RG) : Nat → RS → List (Int × Int) → List (Int × Int)
  | 0, _, acc => acc
  | m + 1, st, acc => if seeOf g st = -1 ∨ inSet lSquare (seeOf g st) = true then acc else rItems g m (pItem g st) (acc ++ rItem g st)
def rClass (g : RG) (fold : Int) (st : RS) : RT :=
  rLeaf sRune (rItems g (g.rs.length + 2) (takeOf g lCaret st) []) (inSet lCaret (seeOf g st)) (decide (0 < fold))
/-- what stands behind a backslash -/
def rEscape (fold q : Int) : RT :=
  if q = 100 ∨ q = 119 ∨ q = 115 then rLeaf sRune (letterSpans q) false false
  else if q = 68 ∨ q = 87 ∨ q = 83 then rLeaf sRune (letterSpans q) true false
  else if q = 98 then rLeaf sSmallB [] false false
  else if q = 66 then rLeaf sBigB [] false false
  else rLeaf sRune [(escRune q, escRune q)] false (decide (0 < fold))
def rSingle (q : Int) : RT := if q = 46 then rLeaf sRune [(10, 10)] true false else if q = 94 then rLeaf sCaret [] false false else rLeaf sDollar [] false false
def rBracket (g : RG) (ralt : Int → RS → RT) (fold : Int) (st : RS) : RT :=
  if inSet lQuery (seeOf g st) = false then .node sGroup [] false false [ralt fold (pHead g st)] (st.groups + 1) 0 0 false
  else if inSet lLess (seeOf g { st with next := st.next + 1 }) then .node sGroup [] false false [ralt fold (pHead g st)] (st.groups + 1) 0 0 false
  else if inSet lI (seeOf g { st with next := st.next + 1 }) then .node sBare [] false false [ralt (fold + 1) (pHead g st)] 0 0 0 false
  else .node sBare [] false false [ralt fold (pHead g st)] 0 0 0 false
def rAtom (g : RG) (ralt : Int → RS → RT) (fold : Int) (st : RS) : RT :=
  if inSet lOpenRound (seeOf g st) then rBracket g ralt fold { st with next := st.next + 1 }
  else if inSet lOpenSquare (seeOf g st) then rClass g fold { st with next := st.next + 1 }
  else if inSet lBack (seeOf g st) then rEscape fold (seeOf g { st with next := st.next + 1 })
  else if inSet lSingles (seeOf g st) then rSingle (seeOf g st)
  else rLeaf sRune [(seeOf g st, seeOf g st)] false (decide (0 < fold))
def rTimes (a : RT) (least most : Int) (lz : Bool) : RT := .node sTimes [] false false [a] 0 least most lz
def rRepeated (g : RG) (a : RT) (st : RS) : RT :=
  if inSet lStar (seeOf g st) then rTimes a 0 (-1) (inSet lQuery (seeOf g { st with next := st.next + 1 }))
  else if inSet lPlus (seeOf g st) then rTimes a 1 (-1) (inSet lQuery (seeOf g { st with next := st.next + 1 }))
  else if inSet lQuery (seeOf g st) then rTimes a 0 1 (inSet lQuery (seeOf g { st with next := st.next + 1 }))
  else if inSet lOpenBrace (seeOf g st) then
    rTimes a (pBounds g { st with next := st.next + 1 }).2.1 (pBounds g { st with next := st.next + 1 }).2.2 (inSet lQuery (seeOf g (pBounds g { st with next := st.next + 1 }).1))
  else a
def rSeqs (g : RG) (alt : RS → RS × PT) (ralt : Int → RS → RT) (fold : Int) : Nat → RS → List RT → List RT
  | 0, _, acc => acc
  | m + 1, st, acc =>
    if seeOf g st = -1 ∨ inSet lBarRound (seeOf g st) = true then acc
    else rSeqs g alt ralt fold m (pRepeated g (pAtom g alt st).2 (pAtom g alt st).1).1 (acc ++ [rRepeated g (rAtom g ralt fold st) (pAtom g alt st).1])
def rSeq (g : RG) (alt : RS → RS × PT) (ralt : Int → RS → RT) (fold : Int) (st : RS) : RT := .node sSeq [] false false (rSeqs g alt ralt fold (g.rs.length + 1) st []) 0 0 0 false
def rAlts (g : RG) (alt : RS → RS × PT) (ralt : Int → RS → RT) (fold : Int) : Nat → RS → List RT → List RT
  | 0, _, acc => acc
  | m + 1, st, acc =>
    if inSet lBar (seeOf g st) then rAlts g alt ralt fold m (pSeq g alt { st with next := st.next + 1 }).1 (acc ++ [rSeq g alt ralt fold { st with next := st.next + 1 }]) else acc
def rAlt (g : RG) : Nat → Int → RS → RT
  | 0, _, _ => rLeaf sRune [] false false
  | k + 1, fold, st => .node sAlt [] false false (rAlts g (pAlt g k) (rAlt g k) fold (g.rs.length + 1) (pSeq g (pAlt g k) st).1 [rSeq g (pAlt g k) (rAlt g k) fold st]) 0 0 0 false
theorem rSeqs_end (g : RG) (alt : RS → RS × PT) (ralt : Int → RS → RT) (fold : Int) (m : Nat) (st : RS) (acc : List RT) (h : seeOf g st = -1 ∨ inSet lBarRound (seeOf g st) = true) : rSeqs g alt ralt fold m st acc = acc := by
  cases m with
  | zero => rfl
  | succ m => unfold rSeqs; rw [if_pos h]
theorem rAlts_end (g : RG) (alt : RS → RS × PT) (ralt : Int → RS → RT) (fold : Int) (m : Nat) (st : RS) (acc : List RT) (h : inSet lBar (seeOf g st) = false) : rAlts g alt ralt fold m st acc = acc := by
  cases m with
  | zero => rfl
  | succ m => unfold rAlts; rw [if_neg (by rw [h]; simp)]
/-- the tree of a whole pattern -/
def rWhole (g : RG) (st : RS) : RT := rAlt g (g.rs.length + 1) 0 st
end Go.Proofs.YtagehbmipookbaaGreatDoor
