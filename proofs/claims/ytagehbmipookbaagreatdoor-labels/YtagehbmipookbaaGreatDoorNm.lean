/- The names of the groups and their numbers, as the reader keeps them. -/
import Derived.Test.YtagehbmipookbaaGreatDoorCk
namespace Go.Proofs.YtagehbmipookbaaGreatDoor
set_option linter.unusedVariables false
set_option maxRecDepth 100000

/-- the groups and their names are left as they are -/
def Keep (a b : RS) : Prop := a.groups = b.groups ∧ a.names = b.names
theorem Keep.refl (a : RS) : Keep a a := ⟨rfl, rfl⟩
theorem Keep.trans {a b c : RS} (h : Keep a b) (k : Keep b c) : Keep a c := ⟨h.1.trans k.1, h.2.trans k.2⟩
theorem note_keep (st : RS) (e p : Int) (_h : 3 ≤ e ∧ e ≤ 6) : Keep (st.note e p) st := ⟨rfl, rfl⟩
theorem step_keep (st : RS) (n : Nat) : Keep { st with next := n } st := ⟨rfl, rfl⟩
variable {g : RG}
theorem refuse_keep (st : RS) : Keep (refuseOf g st) st := ⟨rfl, rfl⟩
theorem need_keep (l : List UInt8) (st : RS) : Keep (needSt g l st) st := by
  unfold needSt
  split
  · exact Keep.refl _
  · exact refuse_keep st
theorem needOther_keep (l : List UInt8) (st : RS) : Keep (needOtherSt g l st) st := by
  unfold needOtherSt
  split
  · exact refuse_keep st
  · exact Keep.refl _
theorem take_keep (l : List UInt8) (st : RS) : Keep (takeOf g l st) st := by
  unfold takeOf
  split <;> exact Keep.refl _
theorem pDigit_keep (st : RS) : Keep (pDigit g st).1 st := by
  unfold pDigit
  split
  · exact Keep.refl _
  · exact refuse_keep st
theorem pNumber_keep (st : RS) : Keep (pNumber g st).1 st := by
  unfold pNumber
  split
  · exact (pDigit_keep _).trans (pDigit_keep _)
  · exact pDigit_keep _
theorem pHigh_keep (st : RS) : Keep (pHigh g st).1 st := by
  unfold pHigh
  split
  · exact Keep.refl _
  · exact pNumber_keep _
theorem pBounds_keep (st : RS) : Keep (pBounds g st).1 st := by
  unfold pBounds
  split
  · exact ((need_keep _ _).trans (pHigh_keep _)).trans (pNumber_keep st)
  · exact (need_keep _ _).trans (pNumber_keep st)
theorem pOne'_keep (st : RS) : Keep (pOne' g st).1 st := by
  unfold pOne' pOne
  split
  · exact (need_keep _ _).trans (take_keep _ _)
  · exact (needOther_keep _ _).trans (take_keep _ _)
theorem pItem_keep (st : RS) : Keep (pItem g st) st := by
  unfold pItem
  split
  · exact Keep.refl _
  · unfold pUpto
    split
    · split
      · exact ((note_keep _ 5 _ (by omega)).trans (pOne'_keep _)).trans (pOne'_keep st)
      · exact (pOne'_keep _).trans (pOne'_keep st)
    · exact pOne'_keep st
theorem pItems_keep : ∀ (m : Nat) (st : RS), Keep (pItems g m st) st
  | 0, st => Keep.refl _
  | m + 1, st => by
    unfold pItems
    split
    · exact Keep.refl _
    · exact (pItems_keep m _).trans (pItem_keep st)
theorem pClass_keep (st : RS) : Keep (pClass g st) st := (((need_keep _ _).trans (pItems_keep _ _)).trans (pItem_keep _)).trans (take_keep _ _)
theorem pRepeated_keep (A : PT) (st : RS) : Keep (pRepeated g A st).1 st := by
  unfold pRepeated
  split
  · exact take_keep _ _
  · split
    · exact take_keep _ _
    · split
      · exact take_keep _ _
      · split
        · simp only
          refine (take_keep _ _).trans ?_
          split
          · exact (note_keep _ 4 _ (by omega)).trans (pBounds_keep _)
          · exact pBounds_keep _
        · exact Keep.refl _

theorem pLetters_keep (first : Nat) : ∀ (m : Nat) (st : RS), Keep (pLetters g first m st) st
  | 0, _ => Keep.refl _
  | m + 1, st => by
    unfold pLetters
    split
    · exact (pLetters_keep first m { st with next := st.next + 1 }).trans (step_keep st _)
    · exact Keep.refl _

/-- each name has a number of its own, and no name stands twice -/
def Nums (st : RS) : Prop := (∀ p ∈ st.names, 1 ≤ p.2 ∧ p.2 ≤ st.groups) ∧ st.names.Pairwise (fun p q => p.1 ≠ q.1 ∧ p.2 ≠ q.2)
/-- .. and the last group's is not given yet -/
def NumsLt (st : RS) : Prop := (1 ≤ st.groups ∧ ∀ p ∈ st.names, 1 ≤ p.2 ∧ p.2 < st.groups) ∧ st.names.Pairwise (fun p q => p.1 ≠ q.1 ∧ p.2 ≠ q.2)
theorem Nums.keep {a b : RS} (k : Keep a b) (h : Nums b) : Nums a := by
  unfold Nums at h ⊢
  rw [k.1, k.2]; exact h
theorem NumsLt.keep {a b : RS} (k : Keep a b) (h : NumsLt b) : NumsLt a := by
  unfold NumsLt at h ⊢
  rw [k.1, k.2]; exact h
theorem NumsLt.le {a : RS} (h : NumsLt a) : Nums a := ⟨fun p hp => by have := h.1.2 p hp; omega, h.2⟩
theorem Nums.more {st : RS} (h : Nums st) (n : Nat) : NumsLt { st with next := n, groups := st.groups + 1 } := ⟨⟨by simp, fun p hp => by have := h.1 p hp; exact ⟨this.1, Nat.lt_succ_of_le this.2⟩⟩, h.2⟩
theorem pNamed_nums (first : Nat) (st : RS) (h : NumsLt st) : Nums (pNamed g first st) := by
  unfold pNamed
  split
  · exact h.le.keep (note_keep _ 6 _ (by omega))
  · rename_i hn
    refine ⟨fun p hp => ?_, List.pairwise_cons.2 ⟨fun q hq => ⟨fun e => ?_, ?_⟩, h.2⟩⟩
    · rcases List.mem_cons.1 hp with rfl | hp
      · exact ⟨h.1.1, Nat.le_refl _⟩
      · have := h.1.2 p hp; exact ⟨this.1, by simp only; omega⟩
    · refine hn (List.any_eq_true.2 ⟨q, hq, ?_⟩)
      simp only at e
      rw [← e]; simp
    · have := h.1.2 q hq; simp only; omega
theorem pName_nums (st : RS) (h : NumsLt st) : Nums (pName g st) :=
  (pNamed_nums _ _ ((h.keep (need_keep _ _)).keep (pLetters_keep _ _ _))).keep (need_keep _ _)
theorem pHead_nums (st : RS) (h : Nums st) : Nums (pHead g st) := by
  unfold pHead
  split
  · exact (h.more st.next).le
  · split
    · exact pName_nums _ (h.more _)
    · exact ((h.keep (step_keep st _)).keep (take_keep _ _)).keep (need_keep _ _)
def AltNums (alt : RS → RS × PT) : Prop := ∀ st, Nums st → Nums (alt st).1
theorem pAtom_nums {alt : RS → RS × PT} (ha : AltNums alt) (st : RS) (h : Nums st) : Nums (pAtom g alt st).1 := by
  unfold pAtom
  split
  · exact (ha _ (pHead_nums _ (h.keep (step_keep st _)))).keep (need_keep _ _)
  · split
    · exact (h.keep (step_keep st _)).keep (pClass_keep _)
    · split
      · exact (h.keep (step_keep st _)).keep (need_keep _ _)
      · split
        · exact h.keep (step_keep st _)
        · exact h.keep (needOther_keep _ _)
theorem pSeqs_nums {alt : RS → RS × PT} (ha : AltNums alt) : ∀ (m : Nat) (st : RS) (acc : List PT), Nums st → Nums (pSeqs g alt m st acc).1
  | 0, _, _, h => h
  | m + 1, st, acc, h => by
    unfold pSeqs
    split
    · exact h
    · exact pSeqs_nums ha m _ _ ((pAtom_nums ha st h).keep (pRepeated_keep _ _))
theorem pAlts_nums {alt : RS → RS × PT} (ha : AltNums alt) : ∀ (m : Nat) (st : RS) (acc : List PT), Nums st → Nums (pAlts g alt m st acc).1
  | 0, _, _, h => h
  | m + 1, st, acc, h => by
    unfold pAlts
    split
    · exact pAlts_nums ha m _ _ (pSeqs_nums ha _ _ _ (h.keep (step_keep st _)))
    · exact h
theorem pAlt_nums : ∀ k, AltNums (pAlt g k)
  | 0, _, h => h
  | k + 1, st, h => by
    unfold pAlt
    exact pAlts_nums (pAlt_nums k) _ _ _ (pSeqs_nums (pAlt_nums k) _ _ _ h)
theorem pWhole_nums (st : RS) (h : Nums st) : Nums (pWhole g st).1 := by
  unfold pWhole
  split
  · exact pAlt_nums _ _ h
  · exact (pAlt_nums _ _ h).keep (refuse_keep _)

/-! ## the list of names -/
/-- of each group its name, by number; of one without a name nothing; 'left': names that are not looked at yet -/
def nameAt (names : List (List UInt8 × Nat)) (left : List UInt8 → Bool) (j : Nat) : List UInt8 := match names.find? (fun p => p.2 == j + 1 && !left p.1) with
  | some p => p.1
  | none => []
def nameList (st : RS) (left : List UInt8 → Bool) : List (List UInt8) := (List.range st.groups).map (nameAt st.names left)
theorem nameList_length (st : RS) (left : List UInt8 → Bool) : (nameList st left).length = st.groups := by simp [nameList]
theorem nameList_get (st : RS) (left : List UInt8 → Bool) (j : Nat) (h : j < st.groups) : (nameList st left)[j]? = some (nameAt st.names left j) := by
  simp [nameList, List.getElem?_map, List.getElem?_range h]
theorem nameAt_start (names : List (List UInt8 × Nat)) (left : List UInt8 → Bool) (h : ∀ p ∈ names, left p.1 = true) (j : Nat) : nameAt names left j = [] := by
  unfold nameAt
  rw [List.find?_eq_none.2 (fun p hp => by simp [h p hp])]
theorem nameAt_hit {names : List (List UInt8 × Nat)} (hp : names.Pairwise (fun p q => p.1 ≠ q.1 ∧ p.2 ≠ q.2)) {left : List UInt8 → Bool} {x : List UInt8} {c : Nat} (hm : (x, c) ∈ names) (hc : 1 ≤ c) : nameAt names (fun z => left z && !(z == x)) (c - 1) = x := by
  unfold nameAt
  cases hf : names.find? (fun p => p.2 == c - 1 + 1 && !(left p.1 && !(p.1 == x))) with
  | none =>
    have := List.find?_eq_none.1 hf _ hm
    simp at this; omega
  | some q =>
    have h1 := List.find?_some hf
    have h2 := List.mem_of_find?_eq_some hf
    simp only [Bool.and_eq_true, beq_iff_eq] at h1
    simp only
    apply Decidable.byContradiction
    intro hne
    have key : ∀ (l : List (List UInt8 × Nat)), l.Pairwise (fun p q => p.1 ≠ q.1 ∧ p.2 ≠ q.2) → ∀ a ∈ l, ∀ b ∈ l, a.2 = b.2 → a.1 = b.1 := by
      intro l hl a ha b hb hab
      induction l with
      | nil => simp at ha
      | cons y l ih =>
        rw [List.pairwise_cons] at hl
        rcases List.mem_cons.1 ha with rfl | ha1
        · rcases List.mem_cons.1 hb with rfl | hb
          · rfl
          · exact absurd hab (hl.1 b hb).2
        · rcases List.mem_cons.1 hb with rfl | hb
          · exact absurd hab.symm (hl.1 a ha1).2
          · exact ih hl.2 ha1 hb
    exact hne (key names hp q h2 (x, c) hm (by simp only; omega))
theorem find_congr {l : List (List UInt8 × Nat)} {f h : List UInt8 × Nat → Bool} (e : ∀ p ∈ l, f p = h p) : l.find? f = l.find? h := by
  induction l with
  | nil => rfl
  | cons a l ih =>
    rw [List.find?_cons, List.find?_cons, e a List.mem_cons_self, ih (fun p hp => e p (List.mem_cons_of_mem _ hp))]
theorem nameAt_other {names : List (List UInt8 × Nat)} (hp : names.Pairwise (fun p q => p.1 ≠ q.1 ∧ p.2 ≠ q.2)) {left : List UInt8 → Bool} {x : List UInt8} {c : Nat} (hm : (x, c) ∈ names) {j : Nat} (hj : j + 1 ≠ c) : nameAt names (fun z => left z && !(z == x)) j = nameAt names left j := by
  unfold nameAt
  have : ∀ p ∈ names, (p.2 == j + 1 && !(left p.1 && !(p.1 == x))) = (p.2 == j + 1 && !left p.1) := by
    intro p hpm
    cases hx : (p.1 == x)
    · simp
    · have e : p.1 = x := by simpa using hx
      have : p.2 = c := by
        have key : ∀ (l : List (List UInt8 × Nat)), l.Pairwise (fun p q => p.1 ≠ q.1 ∧ p.2 ≠ q.2) → ∀ a ∈ l, ∀ b ∈ l, a.1 = b.1 → a.2 = b.2 := by
          intro l hl a ha b hb hab
          induction l with
          | nil => simp at ha
          | cons y l ih =>
            rw [List.pairwise_cons] at hl
            rcases List.mem_cons.1 ha with rfl | ha1
            · rcases List.mem_cons.1 hb with rfl | hb
              · rfl
              · exact absurd hab (hl.1 b hb).1
            · rcases List.mem_cons.1 hb with rfl | hb
              · exact absurd hab.symm (hl.1 a ha1).1
              · exact ih hl.2 ha1 hb
        exact key names hp p hpm (x, c) hm e
      have : (p.2 == j + 1) = false := by simp; omega
      rw [this]; rfl
  rw [find_congr this]
/-- the document's names are these -/
theorem names_alike {st : RS} {nl : List (List UInt8)} (h : NRel st nl) (hn : st.flt.nam = none) : nl = nameList st (fun _ => false) := by
  apply List.ext_getElem?
  intro j
  by_cases hj : j < nl.length
  · rw [nameList_get st _ j (by rw [← h.1]; exact hj), List.getElem?_eq_getElem hj]
    congr 1
    unfold nameAt
    cases hf : st.names.find? (fun p => p.2 == j + 1 && !false) with
    | some p =>
      have h1 := List.find?_some hf
      have h2 := List.mem_of_find?_eq_some hf
      simp only [Bool.not_false, Bool.and_true, beq_iff_eq] at h1
      obtain ⟨j', e1, e2⟩ := (h.2.2.2 hn p.1 p.2 (h.2.2.1 p h2)).1 h2
      have : j' = j := by omega
      subst this
      rw [List.getElem?_eq_getElem hj] at e2
      simpa using e2
    | none =>
      simp only
      apply Decidable.byContradiction
      intro hne
      have := (h.2.2.2 hn (nl[j]) (j + 1) hne).2 ⟨j, rfl, List.getElem?_eq_getElem hj⟩
      have := List.find?_eq_none.1 hf _ this
      simp at this
  · rw [List.getElem?_eq_none (by omega), List.getElem?_eq_none (by rw [nameList_length, ← h.1]; omega)]
end Go.Proofs.YtagehbmipookbaaGreatDoor
