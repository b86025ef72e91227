/- The first byte that is no part of a rune: told alike; the reader leaves it as it is. -/
import Derived.Test.YtagehbmipookbaaGreatDoorRn
import Derived.Test.YtagehbmipookbaaGreatDoorPr
namespace Go.Proofs.YtagehbmipookbaaGreatDoor
set_option linter.unusedVariables false
set_option maxRecDepth 100000

theorem prefix3 (m : List UInt8) (x y z : UInt8) : Lib.hasPrefix m [x, y, z] = ((m[0]? == some x) && (m[1]? == some y) && (m[2]? == some z)) := by
  unfold Lib.hasPrefix
  match m with
  | [] => rfl
  | [a] => simp [List.isPrefixOf]
  | [a, b] => simp [List.isPrefixOf]
  | a :: b :: c :: r =>
    simp only [List.isPrefixOf, Bool.and_true, List.getElem?_cons_zero, List.getElem?_cons_succ, Option.some_beq_some]
    rw [Bool.and_assoc, BEq.comm (a := x), BEq.comm (a := y), BEq.comm (a := z)]
theorem byte_at (s : ByteArray) (j : Nat) (x : UInt8) : (s.data.toList[j]? == some x) = (decide (j < s.size) && at! s j == x.toNat) := by
  by_cases h : j < s.size
  · have h' : j < s.data.toList.length := by simpa using h
    rw [List.getElem?_eq_getElem h', at!_eq s j h, decide_eq_true h, Bool.true_and, Option.some_beq_some]
    have e : s.data.toList[j] = s[j] := rfl
    rw [e, Bool.eq_iff_iff]
    simp only [beq_iff_eq]
    constructor
    · rintro rfl; rfl
    · exact fun h => UInt8.toNat_inj.1 h
  · rw [List.getElem?_eq_none (by have : ¬ j < s.data.toList.length := by simpa using h
                                  omega), decide_eq_false h]
    rfl
theorem bad_ok (s : ByteArray) (i : Nat) (h : i < s.size) : isBad s (i, ((Utf8.decode s i).1 : Int)) = !okAt s i := by
  unfold isBad okAt okN
  rw [← decode_eq]
  have hp : Lib.hasPrefix (s.extract i s.size).data.toList [239, 191, 189] = (decide (i + 1 < s.size) && decide (i + 2 < s.size) && at! s i == 239 && at! s (i + 1) == 191 && at! s (i + 2) == 189) := by
    rw [prefix3]
    have e : ∀ k, (s.extract i s.size).data.toList[k]? = s.data.toList[i + k]? := by
      intro k
      rw [ByteArray.data_extract, Array.toList_extract]
      simp only [List.extract_eq_take_drop, List.getElem?_take, List.getElem?_drop]
      split
      · rfl
      · rw [List.getElem?_eq_none]
        have : s.data.toList.length = s.size := by simp
        omega
    rw [e 0, e 1, e 2, byte_at, byte_at, byte_at, decide_eq_true (show i + 0 < s.size by omega)]
    simp only [Nat.add_zero, Bool.true_and]
    rw [show (239 : UInt8).toNat = 239 from rfl, show (191 : UInt8).toNat = 191 from rfl, show (189 : UInt8).toNat = 189 from rfl]
    cases decide (i + 1 < s.size) <;> cases decide (i + 2 < s.size) <;> simp
  rw [hp]
  generalize (decide (i + 1 < s.size) && decide (i + 2 < s.size) && at! s i == 239 && at! s (i + 1) == 191 && at! s (i + 2) == 189) = B
  generalize (Utf8.decode s i).1 = r
  have e : (((r : Int)) == 65533) = (r == 65533) := by
    rw [Bool.eq_iff_iff]; simp; omega
  simp only [e]
  rw [bne, Bool.not_or, Bool.not_not]

theorem scan_mem (s : ByteArray) : ∀ (m pos : Nat) (p : Nat × Int), p ∈ scanFrom s m pos → p.1 < s.size ∧ p.2 = ((Utf8.decode s p.1).1 : Int)
  | 0, _, _, h => by simp [scanFrom] at h
  | m + 1, pos, p, h => by
    unfold scanFrom at h
    split at h
    · rename_i hlt
      rcases List.mem_cons.1 h with rfl | h
      · exact ⟨hlt, rfl⟩
      · exact scan_mem s m _ p h
    · simp at h
theorem scan_len (s : ByteArray) : ∀ (m pos : Nat), (scanFrom s m pos).length ≤ s.size - pos
  | 0, _ => by simp [scanFrom]
  | m + 1, pos => by
    unfold scanFrom
    split
    · rename_i hlt
      have := scan_len s m (pos + (Utf8.decode s pos).2)
      have := decode_pos s pos hlt
      simp; omega
    · simp
theorem scan_find (s : ByteArray) : (scan s).find? (fun p => !okAt s p.1) = (scan s).find? (isBad s) := by
  have : ∀ (l : List (Nat × Int)), (∀ p ∈ l, p.1 < s.size ∧ p.2 = ((Utf8.decode s p.1).1 : Int)) → l.find? (fun p => !okAt s p.1) = l.find? (isBad s) := by
    intro l
    induction l with
    | nil => intro _; rfl
    | cons p l ih =>
      intro h
      have hp := h p List.mem_cons_self
      have e : (!okAt s p.1) = isBad s p := by
        rw [← bad_ok s p.1 hp.1, ← hp.2]
      simp only [List.find?_cons, e]
      rw [ih (fun q hq => h q (List.mem_cons_of_mem _ hq))]
  exact this _ (fun p hp => scan_mem s _ _ p hp)

theorem fltOf_go (s : ByteArray) : ∀ (l : List (Nat × Int)) (F : Flt), l.foldl (fun F p => if isBad s p then F.note 2 p.1 else F) F = { F with rune := F.rune.or ((l.find? (isBad s)).map fun p => (p.1 : Int)) }
  | [], F => by cases F; simp
  | p :: l, F => by
    rw [List.foldl_cons, fltOf_go s l, List.find?_cons]
    cases hb : isBad s p
    · simp
    · obtain ⟨r, a, b, c, d, e⟩ := F
      cases r <;> simp [Flt.note, Flt.get, Flt.put]
theorem fltOf_eq (s : ByteArray) (l : List (Nat × Int)) : fltOf s l = { flt0 with rune := (l.find? (isBad s)).map fun p => (p.1 : Int) } := by
  unfold fltOf
  rw [fltOf_go]
  simp [flt0]
theorem broken_rune (s : ByteArray) : (∀ p, (st0 s).flt.rune = some p → brokenOf s = p ∧ 0 ≤ p) ∧ ((st0 s).flt.rune = none → brokenOf s = -1 ∧ (st0 s).flt = flt0) ∧ (st0 s).flt.form = none ∧ (st0 s).flt.big = none := by
  have e : (st0 s).flt = { flt0 with rune := ((scan s).find? (isBad s)).map fun p => (p.1 : Int) } := fltOf_eq s _
  unfold brokenOf
  rw [scan_find, e]
  cases h : (scan s).find? (isBad s) with
  | none => exact ⟨fun p hp => by simp at hp, fun _ => ⟨rfl, rfl⟩, rfl, rfl⟩
  | some q => exact ⟨fun p hp => by simp at hp; subst hp; exact ⟨rfl, by omega⟩, fun hp => by simp at hp, rfl, rfl⟩

/-! ## what the reader leaves as it is -/
def Two (a b : Flt) : Prop := a.rune = b.rune ∧ a.big = b.big
theorem Two.refl (a : Flt) : Two a a := ⟨rfl, rfl⟩
theorem Two.trans {a b c : Flt} (h : Two a b) (k : Two b c) : Two a c := ⟨h.1.trans k.1, h.2.trans k.2⟩
theorem note_two (st : RS) (e p : Int) (h : 3 ≤ e ∧ e ≤ 6) : Two (st.note e p).flt st.flt := by
  unfold RS.note Flt.note
  simp only
  split
  · exact Two.refl _
  · unfold Flt.put
    repeat' split
    all_goals first | exact ⟨rfl, rfl⟩ | (exfalso; omega)
variable {g : RG}
theorem refuse_two (st : RS) : Two (refuseOf g st).flt st.flt := note_two st 3 _ (by omega)
theorem need_two (l : List UInt8) (st : RS) : Two (needSt g l st).flt st.flt := by
  unfold needSt
  split
  · exact Two.refl _
  · exact refuse_two st
theorem needOther_two (l : List UInt8) (st : RS) : Two (needOtherSt g l st).flt st.flt := by
  unfold needOtherSt
  split
  · exact refuse_two st
  · exact Two.refl _
theorem take_two (l : List UInt8) (st : RS) : Two (takeOf g l st).flt st.flt := by
  unfold takeOf
  split <;> exact Two.refl _
theorem pDigit_two (st : RS) : Two (pDigit g st).1.flt st.flt := by
  unfold pDigit
  split
  · exact Two.refl _
  · exact refuse_two st
theorem pNumber_two (st : RS) : Two (pNumber g st).1.flt st.flt := by
  unfold pNumber
  split
  · exact (pDigit_two _).trans (pDigit_two _)
  · exact pDigit_two _
theorem pHigh_two (st : RS) : Two (pHigh g st).1.flt st.flt := by
  unfold pHigh
  split
  · exact Two.refl _
  · exact pNumber_two _
theorem pBounds_two (st : RS) : Two (pBounds g st).1.flt st.flt := by
  unfold pBounds
  split
  · exact ((need_two _ _).trans (pHigh_two _)).trans (pNumber_two st)
  · exact (need_two _ _).trans (pNumber_two st)
theorem pOne'_two (st : RS) : Two (pOne' g st).1.flt st.flt := by
  unfold pOne' pOne
  split
  · exact (need_two _ _).trans (take_two _ _)
  · exact (needOther_two _ _).trans (take_two _ _)
theorem pItem_two (st : RS) : Two (pItem g st).flt st.flt := by
  unfold pItem
  split
  · exact Two.refl _
  · unfold pUpto
    split
    · split
      · exact ((note_two _ 5 _ (by omega)).trans (pOne'_two _)).trans (pOne'_two st)
      · exact (pOne'_two _).trans (pOne'_two st)
    · exact pOne'_two st
theorem pItems_two : ∀ (m : Nat) (st : RS), Two (pItems g m st).flt st.flt
  | 0, st => Two.refl _
  | m + 1, st => by
    unfold pItems
    split
    · exact Two.refl _
    · exact (pItems_two m _).trans (pItem_two st)
theorem pClass_two (st : RS) : Two (pClass g st).flt st.flt := (((need_two _ _).trans (pItems_two _ _)).trans (pItem_two _)).trans (take_two _ _)
theorem pLetters_two (first : Nat) : ∀ (m : Nat) (st : RS), Two (pLetters g first m st).flt st.flt
  | 0, _ => Two.refl _
  | m + 1, st => by
    unfold pLetters
    split
    · exact pLetters_two first m { st with next := st.next + 1 }
    · exact Two.refl _
theorem pNamed_two (first : Nat) (st : RS) : Two (pNamed g first st).flt st.flt := by
  unfold pNamed
  split
  · exact note_two _ 6 _ (by omega)
  · exact Two.refl _
theorem pName_two (st : RS) : Two (pName g st).flt st.flt := (((need_two _ _).trans (pNamed_two _ _)).trans (pLetters_two _ _ _)).trans (need_two _ _)
theorem pRepeated_two (A : PT) (st : RS) : Two (pRepeated g A st).1.flt st.flt := by
  unfold pRepeated
  split
  · exact take_two _ _
  · split
    · exact take_two _ _
    · split
      · exact take_two _ _
      · split
        · simp only
          refine (take_two _ _).trans ?_
          split
          · exact (note_two _ 4 _ (by omega)).trans (pBounds_two _)
          · exact pBounds_two _
        · exact Two.refl _
theorem pHead_two (st : RS) : Two (pHead g st).flt st.flt := by
  unfold pHead
  split
  · exact Two.refl _
  · split
    · exact pName_two _
    · exact (need_two _ _).trans (take_two _ _)
def AltTwo (alt : RS → RS × PT) : Prop := ∀ st, Two (alt st).1.flt st.flt
theorem pAtom_two {alt : RS → RS × PT} (ha : AltTwo alt) (st : RS) : Two (pAtom g alt st).1.flt st.flt := by
  unfold pAtom
  split
  · exact ((need_two _ _).trans (ha _)).trans (pHead_two _)
  · split
    · exact pClass_two _
    · split
      · exact need_two _ _
      · split
        · exact Two.refl _
        · exact needOther_two _ _
theorem pSeqs_two {alt : RS → RS × PT} (ha : AltTwo alt) : ∀ (m : Nat) (st : RS) (acc : List PT), Two (pSeqs g alt m st acc).1.flt st.flt
  | 0, _, _ => Two.refl _
  | m + 1, st, acc => by
    unfold pSeqs
    split
    · exact Two.refl _
    · exact ((pSeqs_two ha m _ _).trans (pRepeated_two _ _)).trans (pAtom_two ha st)
theorem pAlts_two {alt : RS → RS × PT} (ha : AltTwo alt) : ∀ (m : Nat) (st : RS) (acc : List PT), Two (pAlts g alt m st acc).1.flt st.flt
  | 0, _, _ => Two.refl _
  | m + 1, st, acc => by
    unfold pAlts
    split
    · exact (pAlts_two ha m _ _).trans (pSeqs_two ha _ _ _)
    · exact Two.refl _
theorem pAlt_two : ∀ k, AltTwo (pAlt g k)
  | 0, _ => Two.refl _
  | k + 1, st => by
    unfold pAlt
    exact (pAlts_two (pAlt_two k) _ _ _).trans (pSeqs_two (pAlt_two k) _ _ _)
theorem pWhole_two (st : RS) : Two (pWhole g st).1.flt st.flt := by
  unfold pWhole
  split
  · exact pAlt_two _ _
  · exact (refuse_two _).trans (pAlt_two _ _)
end Go.Proofs.YtagehbmipookbaaGreatDoor
