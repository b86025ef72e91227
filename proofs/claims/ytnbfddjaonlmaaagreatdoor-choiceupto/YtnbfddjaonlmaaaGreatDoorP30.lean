/- A pattern's groups: each bears a number of those that the reader has counted. A pattern without a fault: its spans are in order; the states that the builder makes of it have such spans, and slots of its groups. Package syntax's Set. -/
import Derived.Test.YtnbfddjaonlmaaaGreatDoorP16
import Derived.Test.YtnbfddjaonlmaaaGreatDoorP28
import Derived.Test.YtnbfddjaonlmaaaGreatDoorP18
import Derived.Test.YtnbfddjaonlmaaaGreatDoorP29
set_option linter.unusedVariables false
set_option maxRecDepth 100000
namespace Go.Proofs.YtnbfddjaonlmaaaGreatDoor
set_option maxRecDepth 100000

theorem note_grp (st : RS) (e p : Int) : (st.note e p).groups = st.groups := rfl
theorem need_grp (g : RG) (l : List UInt8) (st : RS) : (needSt g l st).groups = st.groups := by unfold needSt; split <;> rfl
theorem needOther_grp (g : RG) (l : List UInt8) (st : RS) : (needOtherSt g l st).groups = st.groups := by unfold needOtherSt; split <;> rfl
theorem take_grp (g : RG) (l : List UInt8) (st : RS) : (takeOf g l st).groups = st.groups := by unfold takeOf; split <;> rfl
theorem pDigit_grp (g : RG) (st : RS) : (pDigit g st).1.groups = st.groups := by unfold pDigit; split <;> rfl
theorem pNumber_grp (g : RG) (st : RS) : (pNumber g st).1.groups = st.groups := by
  unfold pNumber
  split
  · simp only; rw [pDigit_grp, pDigit_grp]
  · exact pDigit_grp g st
theorem pHigh_grp (g : RG) (st : RS) : (pHigh g st).1.groups = st.groups := by
  unfold pHigh
  split
  · rfl
  · exact pNumber_grp g st
theorem pBounds_grp (g : RG) (st : RS) : (pBounds g st).1.groups = st.groups := by
  unfold pBounds
  split
  · simp only; rw [need_grp, pHigh_grp]; exact pNumber_grp g st
  · simp only; rw [need_grp, pNumber_grp]
theorem pRepeated_grp (g : RG) (a : PT) (st : RS) : (pRepeated g a st).1.groups = st.groups := by
  unfold pRepeated
  split
  · simp only; rw [take_grp]
  · split
    · simp only; rw [take_grp]
    · split
      · simp only; rw [take_grp]
      · split
        · simp only
          rw [take_grp]
          split
          · rw [note_grp, pBounds_grp]
          · rw [pBounds_grp]
        · rfl
theorem pOne_grp (g : RG) (e : Bool) (st : RS) : (pOne g e st).1.groups = st.groups := by
  unfold pOne
  cases e
  · exact needOther_grp g _ st
  · exact need_grp g _ st
theorem pOne'_grp (g : RG) (st : RS) : (pOne' g st).1.groups = st.groups := by unfold pOne'; rw [pOne_grp, take_grp]
theorem pUpto_grp (g : RG) (p : Int) (x : RS × Int) : (pUpto g p x).groups = x.1.groups := by
  unfold pUpto
  split
  · split
    · rw [note_grp, pOne'_grp]
    · rw [pOne'_grp]
  · rfl
theorem pItem_grp (g : RG) (st : RS) : (pItem g st).groups = st.groups := by
  unfold pItem
  split
  · rfl
  · rw [pUpto_grp, pOne'_grp]
theorem pItems_grp (g : RG) : ∀ (m : Nat) (st : RS), (pItems g m st).groups = st.groups
  | 0, st => rfl
  | m + 1, st => by
    unfold pItems
    split
    · rfl
    · rw [pItems_grp g m, pItem_grp]
theorem pClass_grp (g : RG) (st : RS) : (pClass g st).groups = st.groups := by unfold pClass; rw [need_grp, pItems_grp, pItem_grp, take_grp]
theorem pLetters_grp (g : RG) (first : Nat) : ∀ (m : Nat) (st : RS), (pLetters g first m st).groups = st.groups
  | 0, st => rfl
  | m + 1, st => by
    unfold pLetters
    split
    · rw [pLetters_grp g first m]
    · rfl
theorem pNamed_grp (g : RG) (first : Nat) (st : RS) : (pNamed g first st).groups = st.groups := by
  unfold pNamed
  split <;> rfl
theorem pName_grp (g : RG) (st : RS) : (pName g st).groups = st.groups := by unfold pName; rw [need_grp, pNamed_grp, pLetters_grp, need_grp]
theorem pHead_grp (g : RG) (st : RS) : st.groups ≤ (pHead g st).groups ∧ (inSet lQuery (seeOf g st) = false → (pHead g st).groups = st.groups + 1) ∧ (¬ inSet lQuery (seeOf g st) = false → inSet lLess (seeOf g { st with next := st.next + 1 }) = true → (pHead g st).groups = st.groups + 1) := by
  unfold pHead
  by_cases h1 : inSet lQuery (seeOf g st) = false
  · rw [if_pos h1]; exact ⟨by simp, fun _ => rfl, fun h => absurd h1 h⟩
  · rw [if_neg h1]
    by_cases h2 : inSet lLess (seeOf g { st with next := st.next + 1 }) = true
    · rw [if_pos h2, pName_grp]; exact ⟨by simp, fun h => absurd h h1, fun _ _ => rfl⟩
    · rw [if_neg h2, need_grp, take_grp]; exact ⟨by simp, fun h => absurd h h1, fun _ h => absurd h h2⟩
def Gm (alt : RS → RS × PT) : Prop := ∀ st, st.groups ≤ (alt st).1.groups
theorem pAtom_grp (g : RG) (alt : RS → RS × PT) (halt : Gm alt) (st : RS) : st.groups ≤ (pAtom g alt st).1.groups := by
  unfold pAtom
  split
  · unfold pBracket
    simp only
    rw [need_grp]
    have h1 := (pHead_grp g { st with next := st.next + 1 }).1
    have h2 := halt (pHead g { st with next := st.next + 1 })
    simp only at h1
    omega
  · split
    · simp only; rw [pClass_grp]; exact Nat.le_refl _
    · split
      · simp only; rw [need_grp]; exact Nat.le_refl _
      · split
        · exact Nat.le_refl _
        · simp only; rw [needOther_grp]; exact Nat.le_refl _
theorem pSeqs_grp (g : RG) (alt : RS → RS × PT) (halt : Gm alt) : ∀ (m : Nat) (st : RS) (acc : List PT), st.groups ≤ (pSeqs g alt m st acc).1.groups
  | 0, st, acc => Nat.le_refl _
  | m + 1, st, acc => by
    unfold pSeqs
    split
    · exact Nat.le_refl _
    · have h1 := pSeqs_grp g alt halt m (pRepeated g (pAtom g alt st).2 (pAtom g alt st).1).1 (acc ++ [(pRepeated g (pAtom g alt st).2 (pAtom g alt st).1).2])
      rw [pRepeated_grp] at h1
      have h2 := pAtom_grp g alt halt st
      omega
theorem pSeq_grp (g : RG) (alt : RS → RS × PT) (halt : Gm alt) : Gm (pSeq g alt) := fun st => pSeqs_grp g alt halt _ _ _
theorem pAlts_grp (g : RG) (alt : RS → RS × PT) (halt : Gm alt) : ∀ (m : Nat) (st : RS) (acc : List PT), st.groups ≤ (pAlts g alt m st acc).1.groups
  | 0, st, acc => Nat.le_refl _
  | m + 1, st, acc => by
    unfold pAlts
    split
    · have h1 := pAlts_grp g alt halt m (pSeq g alt { st with next := st.next + 1 }).1 (acc ++ [(pSeq g alt { st with next := st.next + 1 }).2])
      have h2 := pSeq_grp g alt halt { st with next := st.next + 1 }
      simp only at h2
      omega
    · exact Nat.le_refl _
theorem pAlt_grp (g : RG) : ∀ k : Nat, Gm (pAlt g k)
  | 0 => fun st => Nat.le_refl _
  | k + 1 => fun st => by
    unfold pAlt
    have h1 := pSeq_grp g _ (pAlt_grp g k) st
    have h2 := pAlts_grp g _ (pAlt_grp g k) (g.rs.length + 1) (pSeq g (pAlt g k) st).1 [(pSeq g (pAlt g k) st).2]
    simp only
    omega

/-! ## pieces -/
mutual
theorem gok_mono {G G' : Int} (h : G ≤ G') : ∀ C : CT, C.gok G → C.gok G'
  | .node k sp fo nt ed gr lo hi lz kids, hg => by
    unfold CT.gok at hg ⊢
    exact ⟨hg.1, by omega, goks_mono h kids hg.2.2⟩
theorem goks_mono {G G' : Int} (h : G ≤ G') : ∀ cs : List CT, CT.goks G cs → CT.goks G' cs
  | [], _ => by unfold CT.goks; trivial
  | c :: cs, hg => by
    unfold CT.goks at hg ⊢
    exact ⟨gok_mono h c hg.1, goks_mono h cs hg.2⟩
end
theorem goks_append {G : Int} : ∀ {a b : List CT}, CT.goks G a → CT.goks G b → CT.goks G (a ++ b)
  | [], b, _, hb => hb
  | c :: a, b, ha, hb => by
    unfold CT.goks at ha
    show CT.goks G (c :: (a ++ b))
    unfold CT.goks
    exact ⟨ha.1, goks_append ha.2 hb⟩
theorem goks_one {G : Int} {c : CT} (h : c.gok G) : CT.goks G [c] := by unfold CT.goks; exact ⟨h, by unfold CT.goks; trivial⟩
theorem gok_leaf (G : Nat) (sp : Spans) (fo nt : Bool) : (cLeaf sp fo nt).gok (G : Int) := by
  unfold cLeaf CT.gok CT.goks
  simp
theorem gok_edge (G : Nat) (e : Int) : (cEdge e).gok (G : Int) := by
  unfold cEdge CT.gok CT.goks
  simp
theorem gok_times {G : Nat} {a : CT} (ha : a.gok (G : Int)) (lo hi : Int) (lz : Bool) : (cTimes a lo hi lz).gok (G : Int) := by
  unfold cTimes CT.gok
  exact ⟨Int.le_refl _, by omega, goks_one ha⟩
theorem gok_repeated (g : RG) {G : Nat} {a : CT} (ha : a.gok (G : Int)) (st : RS) : (cRepeated g a st).gok (G : Int) := by
  unfold cRepeated
  (repeat' split) <;> first | exact gok_times ha _ _ _ | exact ha
def Gc (alt : RS → RS × PT) (calt : Bool → RS → CT) : Prop := ∀ fo st, (calt fo st).gok ((alt st).1.groups : Int)
theorem gok_atom (g : RG) (alt : RS → RS × PT) (halt : Gm alt) (calt : Bool → RS → CT) (hc : Gc alt calt) (fo : Bool) (st : RS) : (cAtom g calt fo st).gok ((pAtom g alt st).1.groups : Int) := by
  unfold cAtom pAtom
  by_cases h1 : inSet lOpenRound (seeOf g st) = true
  · rw [if_pos h1, if_pos h1]
    unfold pBracket
    simp only
    rw [need_grp]
    have hH := pHead_grp g { st with next := st.next + 1 }
    have hA := halt (pHead g { st with next := st.next + 1 })
    unfold cBracket
    split
    · rename_i h2
      have := hH.2.1 h2
      unfold CT.gok
      simp only at this ⊢
      exact ⟨by omega, by omega, goks_one (hc _ _)⟩
    · rename_i h2
      split
      · rename_i h3
        have := hH.2.2 h2 h3
        unfold CT.gok
        simp only at this ⊢
        exact ⟨by omega, by omega, goks_one (hc _ _)⟩
      · unfold CT.gok
        exact ⟨by omega, by omega, goks_one (hc _ _)⟩
  · rw [if_neg h1]
    split
    · exact gok_leaf _ _ _ _
    · split
      · unfold cEscape
        (repeat' split) <;> first | exact gok_leaf _ _ _ _ | exact gok_edge _ _
      · split
        · unfold cSingle
          (repeat' split) <;> first | exact gok_leaf _ _ _ _ | exact gok_edge _ _
        · exact gok_leaf _ _ _ _
theorem gok_seqs (g : RG) (alt : RS → RS × PT) (halt : Gm alt) (calt : Bool → RS → CT) (hc : Gc alt calt) (fo : Bool) : ∀ (m : Nat) (st : RS) (acc : List CT) (ps : List PT), CT.goks (st.groups : Int) acc → CT.goks ((pSeqs g alt m st ps).1.groups : Int) (cSeqs g alt calt fo m st acc)
  | 0, st, acc, ps, ha => ha
  | m + 1, st, acc, ps, ha => by
    unfold pSeqs cSeqs
    split
    · exact ha
    · refine gok_seqs g alt halt calt hc fo m _ _ _ ?_
      have h1 := pAtom_grp g alt halt st
      rw [pRepeated_grp]
      exact goks_append (goks_mono (by omega) _ ha) (goks_one (gok_repeated g (gok_atom g alt halt calt hc fo st) _))
theorem gok_seq (g : RG) (alt : RS → RS × PT) (halt : Gm alt) (calt : Bool → RS → CT) (hc : Gc alt calt) (fo : Bool) (st : RS) : (cSeq g alt calt fo st).gok ((pSeq g alt st).1.groups : Int) := by
  unfold cSeq CT.gok pSeq
  exact ⟨Int.le_refl _, by omega, gok_seqs g alt halt calt hc fo _ st [] [] (by unfold CT.goks; trivial)⟩
theorem gok_alts (g : RG) (alt : RS → RS × PT) (halt : Gm alt) (calt : Bool → RS → CT) (hc : Gc alt calt) (fo : Bool) : ∀ (m : Nat) (st : RS) (acc : List CT) (ps : List PT), CT.goks (st.groups : Int) acc → CT.goks ((pAlts g alt m st ps).1.groups : Int) (cAlts g alt calt fo m st acc)
  | 0, st, acc, ps, ha => ha
  | m + 1, st, acc, ps, ha => by
    unfold pAlts cAlts
    split
    · refine gok_alts g alt halt calt hc fo m _ _ _ ?_
      have h1 := pSeq_grp g alt halt { st with next := st.next + 1 }
      simp only at h1
      exact goks_append (goks_mono (by omega) _ ha) (goks_one (gok_seq g alt halt calt hc fo _))
    · exact ha
theorem gok_calt (g : RG) : ∀ k : Nat, Gc (pAlt g k) (cAlt g k)
  | 0 => fun fo st => gok_leaf _ _ _ _
  | k + 1 => fun fo st => by
    have h1 := gok_seq g (pAlt g k) (pAlt_grp g k) (cAlt g k) (gok_calt g k) fo st
    unfold cAlt CT.gok pAlt
    exact ⟨Int.le_refl _, by omega, gok_alts g (pAlt g k) (pAlt_grp g k) (cAlt g k) (gok_calt g k) fo _ _ _ _ (goks_one h1)⟩
theorem gok_whole (g : RG) (st : RS) : (cWhole g st).gok ((pWhole g st).1.groups : Int) := by
  unfold pWhole
  split
  · exact gok_calt g _ false st
  · exact gok_calt g _ false st

def WfSp (l : Spans) : Prop := ∀ s ∈ l, 0 ≤ s.1 ∧ s.1 ≤ s.2 ∧ s.2 ≤ 1114111
theorem WfSp.append {a b : Spans} (ha : WfSp a) (hb : WfSp b) : WfSp (a ++ b) := fun s hs => (List.mem_append.1 hs).elim (ha s) (hb s)
theorem WfSp.one {x y : Int} (h : 0 ≤ x ∧ x ≤ y ∧ y ≤ 1114111) : WfSp [(x, y)] := fun s hs => by simp at hs; subst hs; exact h
theorem WfSp.set (r : Int) : WfSp (setSpans r) := by
  unfold setSpans
  (repeat' split) <;> (intro s hs; simp at hs) <;> (rcases hs with rfl | rfl | rfl | rfl) <;> simp
/-- takesC, by the set that the program makes -/
theorem SetOf.takes {S sp : Spans} {fo nt : Bool} (h : SetOf S sp fo nt) (hw : WfSp sp) : Tidied S ∧ ∀ c, 0 ≤ c → c ≤ 1114111 → inSpans S c = takesC sp fo nt c := h.has hw

/-! ## spans of a pattern without a fault -/
mutual
def CT.wok : CT → Prop
  | .node k sp fo nt ed gr lo hi lz kids => WfSp sp ∧ CT.woks kids
def CT.woks : List CT → Prop
  | [] => True
  | c :: cs => CT.wok c ∧ CT.woks cs
end
def RunesOk (g : RG) : Prop := ∀ r ∈ g.rs, 0 ≤ r ∧ r ≤ 1114111
theorem see_ok {g : RG} (hg : RunesOk g) (st : RS) (h : seeOf g st ≠ -1) : 0 ≤ seeOf g st ∧ seeOf g st ≤ 1114111 := by
  unfold seeOf at h ⊢
  rw [List.getD_eq_getElem?_getD] at h ⊢
  cases e : g.rs[st.next]? with
  | none => rw [e] at h; exact absurd rfl h
  | some r => exact hg r (List.mem_of_getElem? e)
theorem inSet_range {l : List UInt8} {r : Int} (h : inSet l r = true) : 0 ≤ r ∧ r ≤ 255 := by
  unfold inSet at h
  obtain ⟨b, hb, e⟩ := List.any_eq_true.1 h
  have := b.toNat_lt
  have : (b.toNat : Int) = r := by simpa using e
  omega
theorem need_clean {g : RG} {l : List UInt8} {st : RS} (h : CleanF (needSt g l st).flt) : inSet l (seeOf g st) = true := by
  unfold needSt at h
  split at h
  · assumption
  · exact absurd h.1 note_form0
theorem needOther_clean {g : RG} {l : List UInt8} {st : RS} (h : CleanF (needOtherSt g l st).flt) : seeOf g st ≠ -1 := by
  unfold needOtherSt at h
  split at h
  · exact absurd h.1 note_form0
  · rename_i c; exact fun e => c (Or.inl e)
theorem escRune_ok {c : Int} (h : 0 ≤ c ∧ c ≤ 1114111) : 0 ≤ escRune c ∧ escRune c ≤ 1114111 := by
  unfold escRune; (repeat' split) <;> omega
theorem one_ok {g : RG} (hg : RunesOk g) {st : RS} (h : CleanF (pOne' g st).1.flt) : 0 ≤ (pOne' g st).2 ∧ (pOne' g st).2 ≤ 1114111 := by
  unfold pOne' pOne at h ⊢
  by_cases e : inSet lBack (seeOf g st) = true
  · rw [e] at h ⊢
    simp only [if_true] at h ⊢
    have := inSet_range (need_clean h)
    exact escRune_ok (by omega)
  · rw [Bool.eq_false_iff.2 e] at h ⊢
    simp only [Bool.false_eq_true, if_false] at h ⊢
    exact see_ok hg _ (needOther_clean h)
theorem item_wf {g : RG} (hg : RunesOk g) {st : RS} (h : CleanF (pItem g st).flt) : WfSp (cItem g st) := by
  unfold pItem at h
  unfold cItem
  by_cases c : inSet lBack (seeOf g st) = true ∧ inSet lSets (seeOf g { st with next := st.next + 1 }) = true
  · rw [if_pos c]; exact WfSp.set _
  · rw [if_neg c] at h ⊢
    have h1 := one_ok hg ((pUpto_le g _ _).clean h)
    by_cases d : inSet lDash (seeOf g (pOne' g st).1) = true
    · rw [if_pos d]
      unfold pUpto at h
      rw [if_pos d] at h
      split at h
      · exact absurd h.2.2 note_cls
      · rename_i hn
        have h2 := one_ok hg h
        exact WfSp.one ⟨h1.1, by omega, h2.2⟩
    · rw [if_neg d]; exact WfSp.one ⟨h1.1, Int.le_refl _, h1.2⟩
theorem items_wf {g : RG} (hg : RunesOk g) : ∀ (m : Nat) (st : RS) (acc : Spans), WfSp acc → CleanF (pItems g m st).flt → WfSp (cItems g m st acc)
  | 0, st, acc, ha, _ => ha
  | m + 1, st, acc, ha, h => by
    unfold pItems at h
    unfold cItems
    split
    · exact ha
    · rename_i c
      rw [if_neg c] at h
      exact items_wf hg m _ _ (ha.append (item_wf hg ((pItems_le g m _).clean h))) h
theorem woks_append : ∀ {a b : List CT}, CT.woks a → CT.woks b → CT.woks (a ++ b)
  | [], b, _, hb => hb
  | c :: a, b, ha, hb => by
    unfold CT.woks at ha
    show CT.woks (c :: (a ++ b))
    unfold CT.woks
    exact ⟨ha.1, woks_append ha.2 hb⟩
theorem woks_one {c : CT} (h : c.wok) : CT.woks [c] := by unfold CT.woks; exact ⟨h, by unfold CT.woks; trivial⟩
theorem wnil : WfSp [] := fun s hs => by cases hs
theorem wok_leaf {sp : Spans} (h : WfSp sp) (fo nt : Bool) : (cLeaf sp fo nt).wok := by
  unfold cLeaf CT.wok CT.woks
  exact ⟨h, trivial⟩
theorem wok_edge (e : Int) : (cEdge e).wok := by
  unfold cEdge CT.wok CT.woks
  exact ⟨wnil, trivial⟩
theorem wok_times {a : CT} (ha : a.wok) (lo hi : Int) (lz : Bool) : (cTimes a lo hi lz).wok := by
  unfold cTimes CT.wok
  exact ⟨wnil, woks_one ha⟩
theorem wok_repeated (g : RG) {a : CT} (ha : a.wok) (st : RS) : (cRepeated g a st).wok := by
  unfold cRepeated
  (repeat' split) <;> first | exact wok_times ha _ _ _ | exact ha
def Wc (alt : RS → RS × PT) (calt : Bool → RS → CT) : Prop := ∀ fo st, CleanF (alt st).1.flt → (calt fo st).wok
theorem wok_atom {g : RG} (hg : RunesOk g) (alt : RS → RS × PT) (calt : Bool → RS → CT) (hcalt : Wc alt calt) (fo : Bool) (st : RS) (hne : seeOf g st ≠ -1) (hc : CleanF (pAtom g alt st).1.flt) : (cAtom g calt fo st).wok := by
  unfold pAtom at hc
  unfold cAtom
  split
  · rename_i h1
    rw [if_pos h1] at hc
    have hin := (need_le g _ _).clean (show CleanF (needSt g lRound (alt (pHead g { st with next := st.next + 1 })).1).flt from hc)
    have : ∀ (fo : Bool) (gr : Int), (CT.node 2 [] false false 0 gr 0 0 false [calt fo (pHead g { st with next := st.next + 1 })]).wok := by
      intro fo gr
      unfold CT.wok
      exact ⟨wnil, woks_one (hcalt _ _ hin)⟩
    unfold cBracket
    (repeat' split) <;> exact this _ _
  · rename_i h1
    rw [if_neg h1] at hc
    split
    · rename_i h2
      rw [if_pos h2] at hc
      unfold pClass at hc
      have c1 := (need_le g _ _).clean hc
      have c2 := (pItems_le g _ _).clean c1
      exact wok_leaf (items_wf hg _ _ _ (item_wf hg c2) c1) _ _
    · rename_i h2
      rw [if_neg h2] at hc
      split
      · rename_i h3
        rw [if_pos h3] at hc
        have := inSet_range (need_clean hc)
        unfold cEscape
        have he := escRune_ok (c := seeOf g { st with next := st.next + 1 }) (by omega)
        (repeat' split) <;> first | exact wok_leaf (WfSp.set _) _ _ | exact wok_edge _ | exact wok_leaf (WfSp.one ⟨he.1, Int.le_refl _, he.2⟩) _ _
      · split
        · unfold cSingle
          split <;> first | exact wok_leaf (WfSp.one (by omega)) _ _ | exact wok_edge _
        · have := see_ok hg st hne
          exact wok_leaf (WfSp.one ⟨this.1, Int.le_refl _, this.2⟩) _ _
theorem wok_seqs {g : RG} (hg : RunesOk g) (alt : RS → RS × PT) (halt : ∀ st, LeF st.flt (alt st).1.flt) (calt : Bool → RS → CT) (hcalt : Wc alt calt) (fo : Bool) : ∀ (m : Nat) (st : RS) (acc : List CT) (ps : List PT), CT.woks acc → CleanF (pSeqs g alt m st ps).1.flt → CT.woks (cSeqs g alt calt fo m st acc)
  | 0, st, acc, ps, ha, hc => ha
  | m + 1, st, acc, ps, ha, hc => by
    unfold pSeqs at hc
    unfold cSeqs
    split
    · exact ha
    · rename_i h1
      rw [if_neg h1] at hc
      have c1 := (pSeqs_le g alt halt m _ _).clean hc
      have c2 := (pRepeated_le g _ _).clean c1
      exact wok_seqs hg alt halt calt hcalt fo m _ _ _ (woks_append ha (woks_one (wok_repeated g (wok_atom hg alt calt hcalt fo st (fun e => h1 (Or.inl e)) c2) _))) hc
theorem wok_seq {g : RG} (hg : RunesOk g) (alt : RS → RS × PT) (halt : ∀ st, LeF st.flt (alt st).1.flt) (calt : Bool → RS → CT) (hcalt : Wc alt calt) (fo : Bool) (st : RS) (hc : CleanF (pSeq g alt st).1.flt) : (cSeq g alt calt fo st).wok := by
  have := wok_seqs hg alt halt calt hcalt fo _ st [] [] (by unfold CT.woks; trivial) hc
  unfold cSeq CT.wok
  exact ⟨wnil, this⟩
theorem wok_alts {g : RG} (hg : RunesOk g) (alt : RS → RS × PT) (halt : ∀ st, LeF st.flt (alt st).1.flt) (calt : Bool → RS → CT) (hcalt : Wc alt calt) (fo : Bool) : ∀ (m : Nat) (st : RS) (acc : List CT) (ps : List PT), CT.woks acc → CleanF (pAlts g alt m st ps).1.flt → CT.woks (cAlts g alt calt fo m st acc)
  | 0, st, acc, ps, ha, hc => ha
  | m + 1, st, acc, ps, ha, hc => by
    unfold pAlts at hc
    unfold cAlts
    split
    · rename_i h1
      rw [if_pos h1] at hc
      have c1 := (pAlts_le g alt halt m _ _).clean hc
      exact wok_alts hg alt halt calt hcalt fo m _ _ _ (woks_append ha (woks_one (wok_seq hg alt halt calt hcalt fo _ c1))) hc
    · exact ha
theorem wok_calt {g : RG} (hg : RunesOk g) : ∀ (k : Nat), Wc (pAlt g k) (cAlt g k)
  | 0 => fun fo st hc => wok_leaf wnil _ _
  | k + 1 => fun fo st hc => by
    unfold pAlt at hc
    have hle := pAlt_le g k
    have c1 := (pAlts_le g (pAlt g k) hle _ _ _).clean hc
    have h1 := wok_seq hg (pAlt g k) hle (cAlt g k) (wok_calt hg k) fo st c1
    have h2 := wok_alts hg (pAlt g k) hle (cAlt g k) (wok_calt hg k) fo _ _ _ _ (woks_one h1) hc
    unfold cAlt CT.wok
    exact ⟨wnil, h2⟩
theorem wok_whole {g : RG} (hg : RunesOk g) (st : RS) (hc : CleanF (pWhole g st).1.flt) : (cWhole g st).wok := by
  refine wok_calt hg _ false st ?_
  unfold pWhole at hc
  split at hc
  · exact hc
  · exact (refuse_le g _).clean hc

/-! ## states -/
def MQ (G : Int) (m : MS) : Prop := (m.kind = 1 → WfSp m.sp) ∧ (m.kind = 3 → 0 ≤ m.slot ∧ m.slot < 2 * G) ∧ (0 ≤ m.kind ∧ m.kind ≤ 4)
def AllQ (G : Int) (st : List MS) : Prop := ∀ m ∈ st, MQ G m
def BQ (G : Int) (f : Bl) : Prop := ∀ st nx, AllQ G st → AllQ G (f st nx).1
theorem AllQ.snoc {G : Int} {st : List MS} (h : AllQ G st) {m : MS} (hm : MQ G m) : AllQ G (st ++ [m]) := fun x hx => by
  rcases List.mem_append.1 hx with h1 | h1
  · exact h x h1
  · simp at h1; subst h1; exact hm
theorem MQ.fork (G : Int) (a b : Int) : MQ G (forkS a b) := ⟨fun h => by simp [forkS] at h, fun h => by simp [forkS] at h, by simp [forkS]⟩
theorem MQ.zero (G : Int) : MQ G zeroS := ⟨fun h => by simp [zeroS] at h, fun h => by simp [zeroS] at h, by simp [zeroS]⟩
theorem MQ.stand (G : Int) (e n : Int) : MQ G (standS e n) := ⟨fun h => by simp [standS] at h, fun h => by simp [standS] at h, by simp [standS]⟩
theorem MQ.mark {G : Int} {s : Int} (hs : 0 ≤ s ∧ s < 2 * G) (n : Int) : MQ G (markS s n) := ⟨fun h => by simp [markS] at h, fun h => hs, by simp [markS]⟩
theorem MQ.take {G : Int} {sp : Spans} (h : WfSp sp) (fo nt : Bool) (n : Int) : MQ G (takeS sp fo nt n) := ⟨fun _ => h, fun h => by simp [takeS] at h, by simp [takeS]⟩
theorem BQ.lead {G : Int} {s : Int → MS} (hs : ∀ n, MQ G (s n)) : BQ G (bLead s) := fun st nx h => by
  unfold bLead
  (repeat' split) <;> first | exact h.snoc (hs _) | exact (h.snoc (hs _)).snoc (hs _)
theorem AllQ.forkOne {G : Int} {st : List MS} (h : AllQ G st) (a b : Int) : AllQ G (bForkOne st a b).1 := by
  unfold bForkOne
  (repeat' split) <;> first | exact h | exact h.snoc (MQ.fork G _ _)
theorem AllQ.fork {G : Int} {st : List MS} (h : AllQ G st) (f s : Ex) : AllQ G (bFork st f s).1 := by
  unfold bFork
  split
  · exact h.forkOne _ _
  · exact (h.forkOne _ _).forkOne _ _
theorem AllQ.either {G : Int} {st : List MS} (h : AllQ G st) (lz : Bool) (f s : Ex) : AllQ G (bEither lz st f s).1 := by
  unfold bEither
  split <;> exact h.fork _ _
theorem BQ.reps {G : Int} {f : Bl} (hf : BQ G f) : ∀ m, BQ G (bReps f m)
  | 0 => fun st nx h => h
  | m + 1 => fun st nx h => BQ.reps hf m _ _ (hf st nx h)
theorem BQ.opts {G : Int} {f : Bl} (hf : BQ G f) (lz : Bool) (nx : Ex) : ∀ m, BQ G (bOpts f lz nx m)
  | 0 => fun st a h => h
  | m + 1 => fun st a h => BQ.opts hf lz nx m _ _ ((hf st a h).either lz _ _)
theorem AllQ.getD {G : Int} {st : List MS} (h : AllQ G st) (k : Nat) : MQ G (st.getD k zeroS) := by
  rw [List.getD_eq_getElem?_getD]
  cases e : st[k]? with
  | none => exact MQ.zero G
  | some m => exact h m (List.mem_of_getElem? e)
theorem BQ.loop {G : Int} {f : Bl} (hf : BQ G f) (lz : Bool) : BQ G (bLoop f lz) := fun st nx h => by
  have h1 : AllQ G (bLoop0 f lz st nx).1 := by unfold bLoop0; exact (hf _ _ (h.snoc (MQ.zero G))).either lz _ _
  unfold bLoop
  intro m hm
  rcases List.mem_or_eq_of_mem_set hm with h2 | h2
  · exact h1 m h2
  · rw [h2]; exact h1.getD _
theorem BQ.times {G : Int} {f : Bl} (hf : BQ G f) (lo hi : Int) (lz : Bool) : BQ G (bTimes f lo hi lz) := fun st nx h => by
  unfold bTimes
  split
  · exact hf.reps _ _ _ (hf.loop lz st nx h)
  · exact hf.reps _ _ _ (hf.opts lz nx _ st nx h)
mutual
theorem bPiece_q {G : Int} : ∀ C : CT, C.gok G → C.wok → BQ G (bPiece C)
  | .node k sp fo nt ed gr a b lz kids, hg, hw => by
    unfold CT.gok at hg
    unfold CT.wok at hw
    obtain ⟨g1, g2, g3⟩ := hg
    have hOne := bOne_q kids g3 hw.2
    have hSeq := bSeq_q kids g3 hw.2
    have hAlt := bAlt_q kids g3 hw.2
    intro st nx h
    unfold bPiece
    split
    · exact h.snoc (MQ.take hw.1 _ _ _)
    · split
      · exact BQ.lead (MQ.stand G ed) st nx h
      · split
        · split
          · exact hOne st nx h
          · exact BQ.lead (MQ.mark (by omega)) _ _ (hOne _ _ (BQ.lead (MQ.mark (by omega)) st nx h))
        · split
          · exact hSeq st nx h
          · split
            · exact hAlt st nx h
            · exact hOne.times a b lz st nx h
theorem bOne_q {G : Int} : ∀ cs : List CT, CT.goks G cs → CT.woks cs → BQ G (bOne cs)
  | [], _, _ => fun st nx h => by unfold bOne; exact h
  | c :: cs, hg, hw => by
    unfold CT.goks at hg
    unfold CT.woks at hw
    unfold bOne
    exact bPiece_q c hg.1 hw.1
theorem bSeq_q {G : Int} : ∀ cs : List CT, CT.goks G cs → CT.woks cs → BQ G (bSeq cs)
  | [], _, _ => fun st nx h => by unfold bSeq; exact h
  | c :: cs, hg, hw => by
    unfold CT.goks at hg
    unfold CT.woks at hw
    unfold bSeq
    have h1 := bPiece_q c hg.1 hw.1
    have h2 := bSeq_q cs hg.2 hw.2
    exact fun st nx h => h1 _ _ (h2 st nx h)
theorem bAlt_q {G : Int} : ∀ cs : List CT, CT.goks G cs → CT.woks cs → BQ G (bAlt cs)
  | [], _, _ => fun st nx h => by unfold bAlt; exact h
  | [c], hg, hw => by
    unfold CT.goks at hg
    unfold CT.woks at hw
    unfold bAlt
    exact bPiece_q c hg.1 hw.1
  | c :: d :: cs, hg, hw => by
    unfold CT.goks at hg
    unfold CT.woks at hw
    have h1 := bPiece_q c hg.1 hw.1
    have h2 := bAlt_q (d :: cs) hg.2 hw.2
    intro st nx h
    unfold bAlt
    exact (h1 _ _ (h2 st nx h)).fork _ _
end
theorem built_q {G : Int} {C : CT} (hg : C.gok G) (hw : C.wok) : AllQ G (built C).1 := bPiece_q C hg hw [zeroS] (0, 0) (fun m hm => by simp at hm; subst hm; exact MQ.zero G)
theorem sorted_q {G : Int} {M : List MS} {V : VS} (h : AllQ G M) : AllQ G (sorted M V) := fun m hm => by
  unfold sorted at hm
  obtain ⟨s, _, rfl⟩ := List.mem_map.1 hm
  have := h.getD (G := G) s
  unfold MQ at *
  simpa using this
end Go.Proofs.YtnbfddjaonlmaaaGreatDoor
namespace Go.Proofs.YtnbfddjaonlmaaaGreatDoor
open Go.Shelf Go.RowKit Go.Lib Go.Sort Go.Maps
set_option maxRecDepth 100000

theorem count_first (p : Nat → Bool) : ∀ n, (∀ a b, a ≤ b → b < n → p a = true → p b = true) → (List.range n).countP (fun i => !p i) ≤ n ∧ (∀ t, t < (List.range n).countP (fun i => !p i) → p t = false) ∧ (∀ t, (List.range n).countP (fun i => !p i) ≤ t → t < n → p t = true)
  | 0, _ => ⟨by simp, fun t h => by simp at h, fun t _ h => by omega⟩
  | n + 1, hm => by
    obtain ⟨h1, h2, h3⟩ := count_first p n (fun a b h1 h2 => hm a b h1 (by omega))
    rw [List.range_succ, List.countP_append]
    cases e : p n with
    | true =>
      have : List.countP (fun i => !p i) [n] = 0 := by simp [e]
      rw [this, Nat.add_zero]
      refine ⟨by omega, h2, fun t ht hn => ?_⟩
      by_cases h : t = n
      · rw [h]; exact e
      · exact h3 t ht (by omega)
    | false =>
      have : List.countP (fun i => !p i) [n] = 1 := by simp [e]
      rw [this]
      have hall : ∀ t, t < n → p t = false := fun t ht => by
        cases e2 : p t with
        | false => rfl
        | true => have := hm t n (by omega) (by omega) e2; rw [e] at this; cases this
      have hk : (List.range n).countP (fun i => !p i) = n := by
        refine Nat.le_antisymm h1 ?_
        refine Nat.le_of_not_lt fun hlt => ?_
        have := h3 _ (Nat.le_refl _) hlt
        rw [hall _ hlt] at this
        cases this
      rw [hk]
      refine ⟨by omega, fun t ht => ?_, fun t ht hn => by omega⟩
      by_cases h : t = n
      · rw [h]; exact e
      · exact hall t (by omega)
def toOf (S : Spans) (i : Nat) : Int := (S.getD i (0, 0)).2
def fromOf (S : Spans) (i : Nat) : Int := (S.getD i (0, 0)).1
theorem toOf_eq {S : Spans} {i : Nat} (h : i < S.length) : toOf S i = (S[i]).2 := by unfold toOf; rw [List.getD_eq_getElem?_getD, List.getElem?_eq_getElem h]; rfl
theorem fromOf_eq {S : Spans} {i : Nat} (h : i < S.length) : fromOf S i = (S[i]).1 := by unfold fromOf; rw [List.getD_eq_getElem?_getD, List.getElem?_eq_getElem h]; rfl
theorem tidied_to {S : Spans} (h : Tidied S) {a b : Nat} (hab : a ≤ b) (hb : b < S.length) : toOf S a ≤ toOf S b := by
  rw [toOf_eq (by omega), toOf_eq hb]
  by_cases e : a = b
  · subst e; exact Int.le_refl _
  · have := List.pairwise_iff_getElem.1 h.1 a b (by omega) hb (by omega)
    have := h.2 _ (List.getElem_mem hb)
    omega
def firstTo (S : Spans) (c : Int) : Nat := (List.range S.length).countP (fun i => !decide (c ≤ toOf S i))
theorem search_has {S : Spans} (ht : Tidied S) (c : Int) : firstTo S c ≤ S.length ∧ (decide (firstTo S c < S.length) && decide (fromOf S (firstTo S c) ≤ c)) = inSpans S c := by
  obtain ⟨h1, h2, h3⟩ := count_first (fun i => decide (c ≤ toOf S i)) S.length (fun a b h1 h2 h => by
    have := tidied_to ht h1 h2
    simp only [decide_eq_true_eq] at h ⊢
    omega)
  refine ⟨h1, ?_⟩
  change firstTo S c ≤ S.length at h1
  have h2 : ∀ t, t < firstTo S c → ¬ c ≤ toOf S t := fun t hh => by have := h2 t hh; simpa using this
  have h3 : ∀ t, firstTo S c ≤ t → t < S.length → c ≤ toOf S t := fun t hh hl => by have := h3 t hh hl; simpa using this
  generalize firstTo S c = k at *
  rw [Bool.eq_iff_iff, inSpans_true]
  simp only [Bool.and_eq_true, decide_eq_true_eq]
  constructor
  · rintro ⟨a, b⟩
    have := h3 k (Nat.le_refl _) a
    rw [fromOf_eq a] at b
    rw [toOf_eq a] at this
    exact ⟨_, List.getElem_mem a, b, this⟩
  · rintro ⟨s, hs, a, b⟩
    obtain ⟨t, hl, rfl⟩ := List.getElem_of_mem hs
    have hkt : k ≤ t := by
      refine Nat.le_of_not_lt fun hlt => ?_
      have := h2 t hlt
      rw [toOf_eq hl] at this
      exact this b
    have hk : k < S.length := by omega
    refine ⟨hk, ?_⟩
    rw [fromOf_eq hk]
    by_cases e : k = t
    · subst e; exact a
    · have q := List.pairwise_iff_getElem.1 ht.1 k t hk hl (by omega)
      have := h3 k (Nat.le_refl _) hk
      rw [toOf_eq hk] at this
      omega

theorem has1_rd (w : World) (Bs Bc bs i cap : Nat) (S : Spans) (c : Int) (h1 : w.cell? ⟨Bs, 0, none⟩ = some (.slice (some ⟨bs, 0, none⟩) S.length cap)) (h2 : w.cell? ⟨Bc, 0, none⟩ = some (.int .i32 c)) (h3 : w.cell? ⟨bs, i * 2 + 1, none⟩ = some (.int .i32 (toOf S i))) (hi : i < S.length) (hl : S.length ≤ 6000) :
    Calls Tryz.prog 92 #[.int .i64 (i : Int), .pointer (some ⟨Bs, 0, none⟩), .pointer (some ⟨Bc, 0, none⟩)] w fun e w' => e = .returned (.bool (decide (c ≤ toOf S i))) ∧ ∃ q, w' = w.drewN q := by
  go_enter Tryz.func92, Tryz.ntmps92
  go_wp2_with fail
  go_big_quiet (fail)
  go_wp2_with fail
  go_ret
  exact ⟨rfl, _, rfl⟩
set_option maxHeartbeats 1000000 in
theorem Has_rd (w : World) (sa : Option Addr) (sc bs : Nat) (S : Spans) (c : Int) (ha : S ≠ [] → sa = some ⟨bs, 0, none⟩ ∧ bs < w.heap.size) (hc : Cells32 w bs S) (ht : Tidied S) (hl : S.length ≤ 6000) :
    Calls Tryz.prog 72 #[.slice sa S.length sc, .int .i32 c] w fun e w' => e = .returned (.bool (inSpans S c)) ∧ Kept Nil w w' := by
  obtain ⟨W0, hW0⟩ : ∃ W0, W0 = (w.alloc (.cells #[.slice sa S.length sc] 53)).alloc (.cells #[.int .i32 c] 21) := ⟨_, rfl⟩
  have K0 : Hid (Kept Nil w W0) := by rw [hW0]; exact ((Kept.refl Nil w).alloc _).alloc _
  have hsize : W0.heap.size = w.heap.size + 1 + 1 := by rw [hW0]; simp
  have B1 : Blk W0 w.heap.size #[.slice sa S.length sc] 53 := by rw [hW0]; exact (Blk.new w _ _).alloc _
  have B2 : Blk W0 (w.heap.size + 1) #[.int .i32 c] 21 := by
    rw [hW0]
    have := Blk.new (w.alloc (.cells #[.slice sa S.length sc] 53)) #[.int .i32 c] 21
    simpa using this
  have HS := hid (search_has ht c)
  have eg : ∀ args w, (callFunc 92 args).run Tryz.prog w = .ok (.enter 92 args) w := enters_of Tryz.func92 (by kernel_rfl) rfl
  have hF := Any.sort_Search Tryz.search 92 #[.pointer (some ⟨w.heap.size, 0, none⟩), .pointer (some ⟨w.heap.size + 1, 0, none⟩)] S.length (fun i => decide (c ≤ toOf S i)) W0 eg (by omega)
    (fun m os i hi => by
      have hne : S ≠ [] := by intro e; subst e; simp at hi
      obtain ⟨rfl, hb⟩ := ha hne
      have ck : ∀ {a : Addr} {v : Value}, a.block < W0.heap.size → W0.cell? a = some v → (grow (W0.drewN m) os).cell? a = some v := fun hlt hcell => cell_grown hlt hcell m os
      refine (has1_rd (grow (W0.drewN m) os) w.heap.size (w.heap.size + 1) bs i sc S c (ck (by show w.heap.size < _; omega) (B1.cell 0)) (ck (by show w.heap.size + 1 < _; omega) (B2.cell 0)) (ck (by show bs < _; omega) ((K0.out.cell (p := ⟨bs, i * 2 + 1, none⟩) hb (fun h => h)).trans (by rw [toOf_eq hi]; exact (hc i hi).2))) hi hl).mono ?_
      rintro e w' ⟨h1, n, h2⟩
      exact ⟨h1, n, #[], by rw [h2, grow_empty]⟩)
    (fun a b h1 h2 h => by
      have := tidied_to ht h1 h2
      simp only [decide_eq_true_eq] at h ⊢
      omega)
  change Calls _ _ _ _ (fun e w' => e = .returned (.int .i64 (firstTo S c : Nat)) ∧ _) at hF
  have HF := hid hF
  have HC := hid hc
  have HA := hid ha
  have HB1 := hid B1
  have HB2 := hid B2
  clear hF hc ha ht B1 B2 eg
  obtain ⟨k, hk⟩ : ∃ k, k = firstTo S c := ⟨_, rfl⟩
  rw [← hk] at HS HF
  clear hk
  go_enter Tryz.func72, Tryz.ntmps72
  go_wp2_with fail
  rw [← hW0]
  refine (HF.out).mono ?_
  rintro e w1 ⟨rfl, q, os, rfl⟩
  have ck : Hid (∀ {a : Addr} {v : Value}, a.block < W0.heap.size → W0.cell? a = some v → (grow (W0.drewN q) os).cell? a = some v) := fun hlt hcell => cell_grown hlt hcell q os
  have e1 : (grow (W0.drewN q) os).cell? ⟨w.heap.size, 0, none⟩ = some (.slice sa S.length sc) := ck.out (by show w.heap.size < _; omega) (HB1.out.cell 0)
  have e2 : (grow (W0.drewN q) os).cell? ⟨w.heap.size + 1, 0, none⟩ = some (.int .i32 c) := ck.out (by show w.heap.size + 1 < _; omega) (HB2.out.cell 0)
  have KF : Hid (Kept Nil w (grow (W0.drewN q) os)) := K0.out.trans (keptB (below_grown_sl W0.heap.size W0 q os (Nat.le_refl _)))
  by_cases hlt : k < S.length
  · have hne : S ≠ [] := by intro e; subst e; simp at hlt
    obtain ⟨rfl, hb⟩ := HA.out hne
    have e3 : (grow (W0.drewN q) os).cell? ⟨bs, k * 2, none⟩ = some (.int .i32 (fromOf S k)) := ck.out (by show bs < _; omega) ((K0.out.cell (p := ⟨bs, k * 2, none⟩) hb (fun h => h)).trans (by rw [fromOf_eq hlt]; exact (HC.out k hlt).1))
    generalize hW : grow (W0.drewN q) os = W at *
    clear ck hW
    go_wp2_with fail
    go_big_quiet (fail)
    go_wp2_with fail
    go_ret
    refine ⟨?_, KF.out.drewN _⟩
    rw [← HS.out.2]
    simp [hlt]
  · generalize hW : grow (W0.drewN q) os = W at *
    clear ck hW
    go_wp2_with fail
    go_big_quiet (fail)
    go_wp2_with fail
    go_ret
    refine ⟨?_, KF.out.drewN _⟩
    rw [← HS.out.2]
    simp [hlt]
end Go.Proofs.YtnbfddjaonlmaaaGreatDoor
