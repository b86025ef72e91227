/- Spans of runes, as plain functions: what newSet, others and bothKinds of the program make of them, and which runes are then in them. Nothing of the program is proved here. What the program's reader keeps of a pattern, as plain functions (a mirror of grammar.go): the spans of runes, the edges, the groups, the times. Nothing of the program is proved here. -/
import Derived.Test.YtfollffpibmgcaaGreatDoorP04
namespace Go.Proofs.YtfollffpibmgcaaGreatDoor
set_option linter.unusedVariables false
set_option maxRecDepth 100000
abbrev Spans := List (Int × Int)
def mergeStep (acc : Spans) (s : Int × Int) : Spans :=
 match acc.getLast? with
 | some p => if s.1 ≤ p.2 then acc.dropLast ++ [(p.1, max p.2 s.2)] else acc ++ [s]
 | none => [s]
def mergeAll (l : Spans) : Spans := l.foldl mergeStep []
def othStep (x : Spans × Int) (t : Int × Int) : Spans × Int := (if x.2 < t.1 then x.1 ++ [(x.2, t.1 - 1)] else x.1, t.2 + 1)
def othEnd (x : Spans × Int) : Spans := if x.2 ≤ 1114111 then x.1 ++ [(x.2, 1114111)] else x.1
def othersOf (S : Spans) : Spans := othEnd (S.foldl othStep ([], 0))
def smallStep (acc : Spans) (s : Int × Int) : Spans := if max s.1 97 ≤ min s.2 122 then acc ++ [(max s.1 97 - 32, min s.2 122 - 32)] else acc
def greatStep (acc : Spans) (s : Int × Int) : Spans := if max s.1 65 ≤ min s.2 90 then acc ++ [(max s.1 65 + 32, min s.2 90 + 32)] else acc
def bothStep (acc : Spans) (s : Int × Int) : Spans := greatStep (smallStep acc s) s
def bothOf (l : Spans) : Spans := l.foldl bothStep l
def RuneSp (S : Spans) : Prop := ∀ s ∈ S, (-1 ≤ s.1 ∧ s.1 ≤ 1114111) ∧ (-1 ≤ s.2 ∧ s.2 ≤ 1114111)
theorem RuneSp.append {a b : Spans} (ha : RuneSp a) (hb : RuneSp b) : RuneSp (a ++ b) := fun s hs => by
 rcases List.mem_append.1 hs with h | h
 ·exact ha s h
 ·exact hb s h
theorem RuneSp.one {x y : Int} (h1 : -1 ≤ x ∧ x ≤ 1114111) (h2 : -1 ≤ y ∧ y ≤ 1114111) : RuneSp [(x, y)] := fun s hs => by
 simp at hs; subst hs; exact ⟨h1, h2⟩
theorem mergeStep_snoc (a : Spans) (p s : Int × Int) : mergeStep (a ++ [p]) s = if s.1 ≤ p.2 then a ++ [(p.1, max p.2 s.2)] else a ++ [p] ++ [s] := by
 unfold mergeStep
 simp [List.getLast?_append]
theorem mergeStep_nil (s : Int × Int) : mergeStep [] s = [s] := rfl
theorem snoc_cases (a : Spans) : a = [] ∨ ∃ b p, a = b ++ [p] := by
 cases h : a.reverse with
 | nil => left; simpa using h
 | cons p r => right; exact ⟨r.reverse, p, by have := congrArg List.reverse h; simpa using this⟩
theorem mergeStep_rune {a : Spans} {s : Int × Int} (ha : RuneSp a) (hs : RuneSp [s]) : RuneSp (mergeStep a s) := by
 rcases snoc_cases a with rfl | ⟨b, p, rfl⟩
 ·exact hs
 ·rw [mergeStep_snoc]
  have hp := ha p (by simp)
  have hs' := hs s (by simp)
  split
  ·refine RuneSp.append (fun x hx => ha x (by simp [hx])) (RuneSp.one hp.1 ?_)
   omega
  ·exact ha.append hs
theorem mergeStep_len (a : Spans) (s : Int × Int) : (mergeStep a s).length ≤ a.length + 1 := by
 rcases snoc_cases a with rfl | ⟨b, p, rfl⟩
 ·simp [mergeStep_nil]
 ·rw [mergeStep_snoc]
  split <;> simp
theorem mergeAll_take_succ (l : Spans) (i : Nat) (h : i < l.length) : mergeAll (l.take (i + 1)) = mergeStep (mergeAll (l.take i)) l[i] := by
 unfold mergeAll
 rw [List.take_add_one, List.foldl_append, List.getElem?_eq_getElem h]
 rfl
theorem mergeAll_rune_len (l : Spans) (h : RuneSp l) : RuneSp (mergeAll l) ∧ (mergeAll l).length ≤ l.length := by
 have : ∀ (l acc : Spans), RuneSp acc → RuneSp l → RuneSp (l.foldl mergeStep acc) ∧ (l.foldl mergeStep acc).length ≤ acc.length + l.length := by
  intro l
  induction l with
  | nil => intro acc ha _; exact ⟨ha, by simp⟩
  | cons s l ih =>
   intro acc ha hl
   have h1 := ih (mergeStep acc s) (mergeStep_rune ha (fun x hx => hl x (by simp at hx; simp [hx]))) (fun x hx => hl x (by simp [hx]))
   have h2 := mergeStep_len acc s
   exact ⟨h1.1, by simp only [List.foldl_cons, List.length_cons]; omega⟩
 have := this l [] (fun _ h => by simp at h) h
 exact ⟨this.1, by show (l.foldl mergeStep []).length ≤ _; simpa using this.2⟩
theorem oth_take_succ (l : Spans) (i : Nat) (h : i < l.length) : (l.take (i + 1)).foldl othStep ([], 0) = othStep ((l.take i).foldl othStep ([], 0)) l[i] := by
 rw [List.take_add_one, List.foldl_append, List.getElem?_eq_getElem h]
 rfl
theorem oth_rune_len (l : Spans) (h : RuneSp l) : RuneSp (l.foldl othStep ([], 0)).1 ∧ (0 ≤ (l.foldl othStep ([], 0)).2 ∧ (l.foldl othStep ([], 0)).2 ≤ 1114112) ∧ (l.foldl othStep ([], 0)).1.length ≤ l.length := by
 have : ∀ (l : Spans) (x : Spans × Int), RuneSp x.1 → (0 ≤ x.2 ∧ x.2 ≤ 1114112) → RuneSp l → RuneSp (l.foldl othStep x).1 ∧ (0 ≤ (l.foldl othStep x).2 ∧ (l.foldl othStep x).2 ≤ 1114112) ∧ (l.foldl othStep x).1.length ≤ x.1.length + l.length := by
  intro l
  induction l with
  | nil => intro x h1 h2 _; exact ⟨h1, h2, by simp⟩
  | cons s l ih =>
   intro x h1 h2 hl
   have hs := hl s (by simp)
   have q := ih (othStep x s) (by
    unfold othStep
    split
    ·exact h1.append (RuneSp.one (by omega) (by omega))
    ·exact h1) (by unfold othStep; simp only; omega) (fun y hy => hl y (by simp [hy]))
   refine ⟨q.1, q.2.1, ?_⟩
   have h3 : (othStep x s).1.length ≤ x.1.length + 1 := by unfold othStep; split <;> simp
   simp only [List.foldl_cons, List.length_cons]; omega
 have := this l ([], 0) (fun _ h => by simp at h) (by simp) h
 exact ⟨this.1, this.2.1, by simpa using this.2.2⟩
theorem othersOf_rune_len (l : Spans) (h : RuneSp l) : RuneSp (othersOf l) ∧ (othersOf l).length ≤ l.length + 1 := by
 obtain ⟨h1, h2, h3⟩ := oth_rune_len l h
 unfold othersOf othEnd
 split
 ·exact ⟨h1.append (RuneSp.one (by omega) (by omega)), by simp; omega⟩
 ·exact ⟨h1, by omega⟩
theorem both_take_succ (l acc : Spans) (i : Nat) (h : i < l.length) : (l.take (i + 1)).foldl bothStep acc = bothStep ((l.take i).foldl bothStep acc) l[i] := by
 rw [List.take_add_one, List.foldl_append, List.getElem?_eq_getElem h]
 rfl
theorem smallStep_len (a : Spans) (s : Int × Int) : a.length ≤ (smallStep a s).length ∧ (smallStep a s).length ≤ a.length + 1 := by unfold smallStep; split <;> simp
theorem greatStep_len (a : Spans) (s : Int × Int) : a.length ≤ (greatStep a s).length ∧ (greatStep a s).length ≤ a.length + 1 := by unfold greatStep; split <;> simp
theorem both_rune_len (l acc : Spans) (h : RuneSp l) (ha : RuneSp acc) : RuneSp (l.foldl bothStep acc) ∧ (l.foldl bothStep acc).length ≤ acc.length + 2 * l.length := by
 induction l generalizing acc with
 | nil => exact ⟨ha, by simp⟩
 | cons s l ih =>
  have hs := h s (by simp)
  have h1 : RuneSp (smallStep acc s) := by
   unfold smallStep
   split
   ·exact ha.append (RuneSp.one (by omega) (by omega))
   ·exact ha
  have h2 : RuneSp (bothStep acc s) := by
   unfold bothStep greatStep
   split
   ·exact h1.append (RuneSp.one (by omega) (by omega))
   ·exact h1
  have q := ih (bothStep acc s) (fun y hy => h y (by simp [hy])) h2
  refine ⟨q.1, ?_⟩
  have l1 := smallStep_len acc s
  have l2 : (bothStep acc s).length ≤ (smallStep acc s).length + 1 := (greatStep_len (smallStep acc s) s).2
  simp only [List.foldl_cons, List.length_cons]; omega
def SetOf (S sp : Spans) (fo nt : Bool) : Prop :=
 ∃ l : Spans, l.Perm (if fo then bothOf sp else sp) ∧ l.Pairwise (fun a b => a.1 ≤ b.1) ∧ S = if nt then othersOf (mergeAll l) else mergeAll l
theorem SetOf.rune_len {S sp : Spans} {fo nt : Bool} (h : SetOf S sp fo nt) (hr : RuneSp sp) : RuneSp S ∧ S.length ≤ 3 * sp.length + 1 := by
 obtain ⟨l, hp, _, rfl⟩ := h
 have hb : RuneSp (if fo then bothOf sp else sp) ∧ (if fo then bothOf sp else sp).length ≤ 3 * sp.length := by
  cases fo
  ·exact ⟨hr, by simp; omega⟩
  ·have := both_rune_len sp sp hr hr
   exact ⟨this.1, by show (bothOf sp).length ≤ _; unfold bothOf; omega⟩
 have hl : RuneSp l := fun s hs => hb.1 s (hp.mem_iff.1 hs)
 have hm := mergeAll_rune_len l hl
 have hll := hp.length_eq
 cases nt
 ·exact ⟨hm.1, by simp only [Bool.false_eq_true, if_false]; omega⟩
 ·have := othersOf_rune_len _ hm.1
  exact ⟨this.1, by simp only [if_true]; omega⟩
end Go.Proofs.YtfollffpibmgcaaGreatDoor
namespace Go.Proofs.YtfollffpibmgcaaGreatDoor
set_option linter.unusedVariables false
set_option maxRecDepth 100000
def lOthers : List UInt8 := [68, 87, 83]
def lWordEdge : List UInt8 := [98, 66]
def lTextEdge : List UInt8 := [94, 36]
def lDot : List UInt8 := [46]
def setSpans (r : Int) : Spans := if r = 100 then [(48, 57)] else if r = 119 then [(48, 57), (65, 90), (95, 95), (97, 122)] else [(9, 10), (13, 13), (32, 32)]
def edgeNo (r : Int) : Int := if r = 94 then 0 else if r = 36 then 1 else if r = 98 then 2 else 3
inductive CT where
 | node (k : Int) (sp : Spans) (fo nt : Bool) (ed gr lo hi : Int) (lz : Bool) (kids : List CT) : CT
def cLeaf (sp : Spans) (fo nt : Bool) : CT := .node 0 sp fo nt 0 0 0 0 false []
def cEdge (e : Int) : CT := .node 1 [] false false e 0 0 0 false []
def cItem (g : RG) (st : RS) : Spans :=
 if inSet lBack (seeOf g st) = true ∧ inSet lSets (seeOf g { st with next := st.next + 1 }) = true then setSpans (seeOf g { st with next := st.next + 1 })
 else [((pOne' g st).2, if inSet lDash (seeOf g (pOne' g st).1) then (pOne' g { (pOne' g st).1 with next := (pOne' g st).1.next + 1 }).2 else (pOne' g st).2)]
def cItems (g : RG) : Nat → RS → Spans → Spans
 | 0, _, acc => acc
 | m + 1, st, acc => if seeOf g st = -1 ∨ inSet lSquare (seeOf g st) = true then acc else cItems g m (pItem g st) (acc ++ cItem g st)
def cClass (g : RG) (fo : Bool) (st : RS) : CT :=
 cLeaf (cItems g (g.rs.length + 1) (pItem g (takeOf g lCaret st)) (cItem g (takeOf g lCaret st))) fo (inSet lCaret (seeOf g st))
def cEscape (fo : Bool) (q : Int) : CT :=
 if inSet lWordEdge q then cEdge (edgeNo q)
 else if inSet lSets q then cLeaf (setSpans q) fo false
 else if inSet lOthers q then cLeaf (setSpans (q + 32)) fo true
 else cLeaf [(escRune q, escRune q)] fo false
def cSingle (fo : Bool) (q : Int) : CT := if inSet lDot q then cLeaf [(10, 10)] fo true else cEdge (edgeNo q)
def cBracket (g : RG) (calt : Bool → RS → CT) (fo : Bool) (st : RS) : CT :=
 if inSet lQuery (seeOf g st) = false then .node 2 [] false false 0 (st.groups + 1) 0 0 false [calt fo (pHead g st)]
 else if inSet lLess (seeOf g { st with next := st.next + 1 }) then .node 2 [] false false 0 (st.groups + 1) 0 0 false [calt fo (pHead g st)]
 else .node 2 [] false false 0 0 0 0 false [calt (inSet lI (seeOf g { st with next := st.next + 1 }) || fo) (pHead g st)]
def cAtom (g : RG) (calt : Bool → RS → CT) (fo : Bool) (st : RS) : CT :=
 if inSet lOpenRound (seeOf g st) then cBracket g calt fo { st with next := st.next + 1 }
 else if inSet lOpenSquare (seeOf g st) then cClass g fo { st with next := st.next + 1 }
 else if inSet lBack (seeOf g st) then cEscape fo (seeOf g { st with next := st.next + 1 })
 else if inSet lSingles (seeOf g st) then cSingle fo (seeOf g st)
 else cLeaf [(seeOf g st, seeOf g st)] fo false
def cTimes (a : CT) (lo hi : Int) (lz : Bool) : CT := .node 5 [] false false 0 0 lo hi lz [a]
def cRepeated (g : RG) (a : CT) (st : RS) : CT :=
 if inSet lStar (seeOf g st) then cTimes a 0 (-1) (inSet lQuery (seeOf g { st with next := st.next + 1 }))
 else if inSet lPlus (seeOf g st) then cTimes a 1 (-1) (inSet lQuery (seeOf g { st with next := st.next + 1 }))
 else if inSet lQuery (seeOf g st) then cTimes a 0 1 (inSet lQuery (seeOf g { st with next := st.next + 1 }))
 else if inSet lOpenBrace (seeOf g st) then
  cTimes a (pBounds g { st with next := st.next + 1 }).2.1 (pBounds g { st with next := st.next + 1 }).2.2 (inSet lQuery (seeOf g (pBounds g { st with next := st.next + 1 }).1))
 else a
def cSeqs (g : RG) (alt : RS → RS × PT) (calt : Bool → RS → CT) (fo : Bool) : Nat → RS → List CT → List CT
 | 0, _, acc => acc
 | m + 1, st, acc =>
  if seeOf g st = -1 ∨ inSet lBarRound (seeOf g st) = true then acc
  else cSeqs g alt calt fo m (pRepeated g (pAtom g alt st).2 (pAtom g alt st).1).1 (acc ++ [cRepeated g (cAtom g calt fo st) (pAtom g alt st).1])
def cSeq (g : RG) (alt : RS → RS × PT) (calt : Bool → RS → CT) (fo : Bool) (st : RS) : CT := .node 3 [] false false 0 0 0 0 false (cSeqs g alt calt fo (g.rs.length + 1) st [])
def cAlts (g : RG) (alt : RS → RS × PT) (calt : Bool → RS → CT) (fo : Bool) : Nat → RS → List CT → List CT
 | 0, _, acc => acc
 | m + 1, st, acc =>
  if inSet lBar (seeOf g st) then cAlts g alt calt fo m (pSeq g alt { st with next := st.next + 1 }).1 (acc ++ [cSeq g alt calt fo { st with next := st.next + 1 }]) else acc
def cAlt (g : RG) : Nat → Bool → RS → CT
 | 0, _, _ => cLeaf [] false false
 | k + 1, fo, st => .node 4 [] false false 0 0 0 0 false (cAlts g (pAlt g k) (cAlt g k) fo (g.rs.length + 1) (pSeq g (pAlt g k) st).1 [cSeq g (pAlt g k) (cAlt g k) fo st])
def cWhole (g : RG) (st : RS) : CT := cAlt g (g.rs.length + 1) false st
theorem cItems_end (g : RG) (m : Nat) (st : RS) (acc : Spans) (h : seeOf g st = -1 ∨ inSet lSquare (seeOf g st) = true) : cItems g m st acc = acc := by
 cases m with
 | zero => rfl
 | succ m => unfold cItems; rw [if_pos h]
theorem cSeqs_end (g : RG) (alt : RS → RS × PT) (calt : Bool → RS → CT) (fo : Bool) (m : Nat) (st : RS) (acc : List CT) (h : seeOf g st = -1 ∨ inSet lBarRound (seeOf g st) = true) : cSeqs g alt calt fo m st acc = acc := by
 cases m with
 | zero => rfl
 | succ m => unfold cSeqs; rw [if_pos h]
theorem cAlts_end (g : RG) (alt : RS → RS × PT) (calt : Bool → RS → CT) (fo : Bool) (m : Nat) (st : RS) (acc : List CT) (h : inSet lBar (seeOf g st) = false) : cAlts g alt calt fo m st acc = acc := by
 cases m with
 | zero => rfl
 | succ m => unfold cAlts; rw [if_neg (by rw [h]; simp)]
theorem setSpans_rune (r : Int) : RuneSp (setSpans r) ∧ 1 ≤ (setSpans r).length ∧ (setSpans r).length ≤ 4 := by
 unfold setSpans
 split
 ·exact ⟨fun s h => by simp at h; subst h; decide, by simp, by simp⟩
 ·split
  ·exact ⟨fun s h => by simp at h; rcases h with rfl | rfl | rfl | rfl <;> decide, by simp, by simp⟩
  ·exact ⟨fun s h => by simp at h; rcases h with rfl | rfl | rfl <;> decide, by simp, by simp⟩
theorem escRune_range {q : Int} (h : -1 ≤ q ∧ q ≤ 1114111) : -1 ≤ escRune q ∧ escRune q ≤ 1114111 := by
 unfold escRune
 split
 ·omega
 ·split
  ·omega
  ·split <;> omega
theorem pOne_rune {g : RG} (hs : ∀ st : RS, -1 ≤ seeOf g st ∧ seeOf g st ≤ 1114111) (esc : Bool) (st : RS) : -1 ≤ (pOne g esc st).2 ∧ (pOne g esc st).2 ≤ 1114111 := by
 unfold pOne
 cases esc
 ·exact hs st
 ·exact escRune_range (hs st)
theorem cItem_rune {g : RG} (hs : ∀ st : RS, -1 ≤ seeOf g st ∧ seeOf g st ≤ 1114111) (st : RS) : RuneSp (cItem g st) ∧ 1 ≤ (cItem g st).length ∧ (cItem g st).length ≤ 4 := by
 unfold cItem
 split
 ·exact setSpans_rune _
 ·have h1 := pOne_rune hs (inSet lBack (seeOf g st)) (takeOf g lBack st)
  refine ⟨RuneSp.one h1 ?_, by simp, by simp⟩
  split
  ·exact pOne_rune hs _ _
  ·exact h1
end Go.Proofs.YtfollffpibmgcaaGreatDoor
