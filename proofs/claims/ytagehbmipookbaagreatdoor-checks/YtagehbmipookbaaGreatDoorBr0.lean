/- The reference's tree: times. The reference's tree: words for bracket: forms that are right all the way, names, the node of a bracket. -/
import Derived.Test.YtagehbmipookbaaGreatDoorTm3
import Derived.Test.YtagehbmipookbaaGreatDoorTm4
namespace Go.Proofs.YtagehbmipookbaaGreatDoor
open Go.RowKit
set_option linter.unusedVariables false
set_option maxRecDepth 100000

theorem pHigh_form {g : RG} {st : RS} (h : (pHigh g st).1.flt.form = none) : st.flt.form = none := by
  unfold pHigh at h
  split at h
  · exact h
  · have : ∀ s : RS, (pDigit g s).1.flt.form = none → s.flt.form = none := by
      intro s hs
      unfold pDigit at hs
      split at hs
      · exact hs
      · exact absurd hs (refuse_form g s)
    unfold pNumber at h
    split at h
    · exact this _ (this _ h)
    · exact this _ h

/-- an atom and its times, where the program's are not refused -/
theorem times_tr {w : World} {t : TG} {g : RG} {st st1 : RS} {A : PT} {RA : RT} {fold : Int} {vn : Value} {nl : List (List UInt8)} (hT : TrAt w t g st fold vn nl) (hAt : Calls Tryz.prog 38 #[.pointer (some ⟨t.b, 0, none⟩)] w (NdPost w t g fold vn (st1, A) RA))
    (hf : (pRepeated g A st1).1.flt.form = none) :
    Calls Tryz.prog 24 #[.pointer (some ⟨t.b, 0, none⟩)] w (NdPost w t g fold vn (pRepeated g A st1) (rRepeated g RA st1)) := by
  unfold pRepeated at hf ⊢
  unfold rRepeated
  rw [show inSet lStar (seeOf g st1) = (seeOf g st1 == 42) from inOne' 42 _, show inSet lPlus (seeOf g st1) = (seeOf g st1 == 43) from inOne' 43 _, show inSet lQuery (seeOf g st1) = (seeOf g st1 == 63) from inOne' 63 _, show inSet lOpenBrace (seeOf g st1) = (seeOf g st1 == 123) from inOne' 123 _] at hf ⊢
  cases n1 : (seeOf g st1 == 42)
  · cases n2 : (seeOf g st1 == 43)
    · cases n3 : (seeOf g st1 == 63)
      · cases n4 : (seeOf g st1 == 123)
        · simp only [Bool.false_eq_true, if_false]
          exact times_none hT hAt n1 n2 n3 n4
        · rw [n1, n2, n3, n4] at hf
          simp only [Bool.false_eq_true, if_false, if_true] at hf ⊢
          rw [takeOf_form] at hf
          have hx : (pBounds g { st1 with next := st1.next + 1 }).1.flt.form = none := by
            split at hf
            · rw [note_form (by omega)] at hf; exact hf
            · exact hf
          clear hf
          rw [show seeOf g (pBounds g { st1 with next := st1.next + 1 }).1 = seeOf g (repNote (pBounds g { st1 with next := st1.next + 1 }).1 (pBounds g { st1 with next := st1.next + 1 }).2.1 (pBounds g { st1 with next := st1.next + 1 }).2.2 (placeOf g st1)) from by unfold seeOf; rw [repNote_next]]
          show Calls Tryz.prog 24 #[.pointer (some ⟨t.b, 0, none⟩)] w (NdPost w t g fold vn (takeOf g lQuery (repNote (pBounds g { st1 with next := st1.next + 1 }).1 (pBounds g { st1 with next := st1.next + 1 }).2.1 (pBounds g { st1 with next := st1.next + 1 }).2.2 (placeOf g st1)), .node 4 [A] (pBounds g { st1 with next := st1.next + 1 }).2.1 (pBounds g { st1 with next := st1.next + 1 }).2.2) (rTimes RA (pBounds g { st1 with next := st1.next + 1 }).2.1 (pBounds g { st1 with next := st1.next + 1 }).2.2 (inSet lQuery (seeOf g (repNote (pBounds g { st1 with next := st1.next + 1 }).1 (pBounds g { st1 with next := st1.next + 1 }).2.1 (pBounds g { st1 with next := st1.next + 1 }).2.2 (placeOf g st1))))))
          unfold pBounds at hx ⊢
          by_cases hc : inSet lComma (seeOf g (pNumber g { st1 with next := st1.next + 1 }).1) = true
          · rw [if_pos hc] at hx ⊢
            obtain ⟨a1, a2, a3⟩ := needSt_form hx
            have hbr : seeOf g (pNumber g { st1 with next := st1.next + 1 }).1 = 44 := by rw [comma_eq] at hc; simpa using hc
            have hf1 : (pNumber g { st1 with next := st1.next + 1 }).1.flt.form = none := pHigh_form (st := { (pNumber g { st1 with next := st1.next + 1 }).1 with next := (pNumber g { st1 with next := st1.next + 1 }).1.next + 1 }) a2
            have hnd : inSet lDigits (seeOf g (pNumber g { st1 with next := st1.next + 1 }).1) = false := by rw [hbr]; decide
            simp only
            rw [a3]
            clear a3 hx hc
            unfold pHigh at a1 a2 ⊢
            by_cases hb : inSet lBrace (seeOf g { (pNumber g { st1 with next := st1.next + 1 }).1 with next := (pNumber g { st1 with next := st1.next + 1 }).1.next + 1 }) = true
            · rw [if_pos hb]
              exact times_open hT hAt n4 n1 n2 n3 hf1 hnd hbr (by rw [brace_eq] at hb; simpa using hb)
            · rw [if_neg hb] at a1 a2 ⊢
              have hb3 : seeOf g (pNumber g { (pNumber g { st1 with next := st1.next + 1 }).1 with next := (pNumber g { st1 with next := st1.next + 1 }).1.next + 1 }).1 = 125 := by rw [brace_eq] at a1; simpa using a1
              exact times_two hT hAt n4 n1 n2 n3 hf1 hnd hbr (by intro e; rw [brace_eq] at hb; exact hb (by simp [e])) a2 (by rw [hb3]; decide) hb3
          · rw [if_neg hc] at hx ⊢
            obtain ⟨a1, a2, a3⟩ := needSt_form hx
            have hbr : seeOf g (pNumber g { st1 with next := st1.next + 1 }).1 = 125 := by rw [brace_eq] at a1; simpa using a1
            simp only
            rw [a3]
            exact times_one hT hAt n4 n1 n2 n3 a2 (by rw [hbr]; decide) hbr
      · simp only [Bool.false_eq_true, if_false, if_true]
        exact times_query hT hAt n3 n1 n2
    · simp only [Bool.false_eq_true, if_false, if_true]
      exact times_plus hT hAt n2 n1
  · simp only [if_true]
    exact times_star hT hAt n1

/-! ## where nothing is refused: all the way -/
theorem pNumber_form {g : RG} {s : RS} (h : (pNumber g s).1.flt.form = none) : s.flt.form = none := by
  have : ∀ s : RS, (pDigit g s).1.flt.form = none → s.flt.form = none := by
    intro s hs
    unfold pDigit at hs
    split at hs
    · exact hs
    · exact absurd hs (refuse_form g s)
  unfold pNumber at h
  split at h
  · exact this _ (this _ h)
  · exact this _ h
theorem pBounds_form {g : RG} {s : RS} (h : (pBounds g s).1.flt.form = none) : s.flt.form = none := by
  unfold pBounds at h
  split at h
  · have h1 := pHigh_form (needSt_form h).2.1
    exact pNumber_form h1
  · exact pNumber_form (needSt_form h).2.1
theorem pRepeated_form {g : RG} {A : PT} {s : RS} (h : (pRepeated g A s).1.flt.form = none) : s.flt.form = none := by
  unfold pRepeated at h
  split at h
  · rw [takeOf_form] at h; exact h
  · split at h
    · rw [takeOf_form] at h; exact h
    · split at h
      · rw [takeOf_form] at h; exact h
      · split at h
        · simp only at h
          rw [takeOf_form] at h
          split at h
          · rw [note_form (by omega)] at h; exact pBounds_form (s := { s with next := s.next + 1 }) h
          · exact pBounds_form (s := { s with next := s.next + 1 }) h
        · exact h
theorem pLetters_flt (g : RG) (first : Nat) : ∀ (m : Nat) (st : RS), (pLetters g first m st).flt = st.flt
  | 0, _ => rfl
  | m + 1, st => by
    unfold pLetters
    split
    · exact pLetters_flt g first m { st with next := st.next + 1 }
    · rfl
theorem pNamed_form (g : RG) (first : Nat) (st : RS) : (pNamed g first st).flt.form = st.flt.form := by
  unfold pNamed
  split
  · exact note_form (by omega)
  · rfl
theorem pName_form {g : RG} {s : RS} (h : (pName g s).flt.form = none) : s.flt.form = none := by
  have h1 := (needSt_form h).2.1
  rw [pNamed_form, pLetters_flt] at h1
  exact (needSt_form h1).2.1
theorem pHead_form {g : RG} {s : RS} (h : (pHead g s).flt.form = none) : s.flt.form = none := by
  unfold pHead at h
  split at h
  · exact h
  · split at h
    · exact pName_form (s := { s with next := s.next + 2, groups := s.groups + 1 }) h
    · have h1 := (needSt_form h).2.1
      rw [takeOf_form] at h1
      exact h1
def AltForm (alt : RS → RS × PT) : Prop := ∀ s, (alt s).1.flt.form = none → s.flt.form = none
theorem pBracket_form {g : RG} {alt : RS → RS × PT} (ha : AltForm alt) {s : RS} (h : (pBracket g alt s).1.flt.form = none) : s.flt.form = none := pHead_form (ha _ (needSt_form h).2.1)
theorem pClass_form {g : RG} {s : RS} (h : (pClass g s).flt.form = none) : s.flt.form = none := by
  have h1 := pItem_form (pItems_form (needSt_form h).2.1)
  rw [takeOf_form] at h1
  exact h1
theorem pAtom_form {g : RG} {alt : RS → RS × PT} (ha : AltForm alt) {s : RS} (h : (pAtom g alt s).1.flt.form = none) : s.flt.form = none := by
  unfold pAtom at h
  split at h
  · exact pBracket_form (s := { s with next := s.next + 1 }) ha h
  · split at h
    · exact pClass_form (s := { s with next := s.next + 1 }) h
    · split at h
      · exact (needSt_form (st := { s with next := s.next + 1 }) h).2.1
      · split at h
        · exact h
        · exact (needOtherSt_form h).2.2.1
theorem pSeqs_form {g : RG} {alt : RS → RS × PT} (ha : AltForm alt) : ∀ (m : Nat) (s : RS) (acc : List PT), (pSeqs g alt m s acc).1.flt.form = none → s.flt.form = none
  | 0, _, _, h => h
  | m + 1, s, acc, h => by
    unfold pSeqs at h
    split at h
    · exact h
    · exact pAtom_form ha (pRepeated_form (pSeqs_form ha m _ _ h))
theorem pSeq_form {g : RG} {alt : RS → RS × PT} (ha : AltForm alt) {s : RS} (h : (pSeq g alt s).1.flt.form = none) : s.flt.form = none := pSeqs_form ha _ _ _ h
theorem pAlts_form {g : RG} {alt : RS → RS × PT} (ha : AltForm alt) : ∀ (m : Nat) (s : RS) (acc : List PT), (pAlts g alt m s acc).1.flt.form = none → s.flt.form = none
  | 0, _, _, h => h
  | m + 1, s, acc, h => by
    unfold pAlts at h
    split at h
    · exact pSeq_form (s := { s with next := s.next + 1 }) ha (pAlts_form ha m _ _ h)
    · exact h
theorem pAlt_form (g : RG) : ∀ k, AltForm (pAlt g k)
  | 0, _, h => h
  | k + 1, s, h => by
    unfold pAlt at h
    exact pSeq_form (pAlt_form g k) (pAlts_form (pAlt_form g k) _ _ _ h)

/-! ## the fold, the names -/
theorem TrAt.setFold {w : World} {t : TG} {g : RG} {st : RS} {fold : Int} {vn : Value} {nl : List (List UInt8)} (h : TrAt w t g st fold vn nl) (f : Int) (hf : 0 ≤ f ∧ f ≤ st.next) : TrAt (w.setCell ⟨t.b, 2, none⟩ (.int .i64 f)) t g st f vn nl := by
  have k : Kept (fun i => i = t.b) w (w.setCell ⟨t.b, 2, none⟩ (.int .i64 f)) := own1 2 _
  exact { h with
    blk := h.blk.setCell 2 _
    gl := h.gl.kept k (fun hl => h.ne hl)
    names := ownsRow_kept h.names k (fun b hb he => by have := (ownsRow_block h.names hb).1; omega)
    fold0 := hf }
/-- one name more -/
theorem TrAt.pushName {w w1 w' : World} {t : TG} {g : RG} {st st2 : RS} {fold : Int} {vn v' : Value} {nl : List (List UInt8)} (h : TrAt w t g st fold vn nl) (x : List UInt8) (k1 : Kept Nil w w1)
    (hown : w'.ownsRow (t.b + 1) 9 1 v' (nl.length + 1) ((nl.map fun x => .string ⟨x.toArray⟩) ++ [.string ⟨x.toArray⟩])) (hg : w1.grownBy w' vn.ownBlock)
    (e1 : st2.next = st.next) (e2 : st2.flt.rep = st.flt.rep ∧ st2.flt.cls = st.flt.cls ∧ st2.flt.nam = st.flt.nam) (hrel : NRel st2 (nl ++ [x])) (hgr : st2.groups ≤ st2.next) :
    TrAt (w'.setCell ⟨t.b, 3, none⟩ v') t g st2 fold v' (nl ++ [x]) := by
  have kk : Kept (fun i => vn.ownBlock = some i) w w' := (k1.mono (fun _ hx => hx.elim)).grown hg (fun j hj => Or.inl hj)
  have k2 : Kept (fun i => i = t.b) w' (w'.setCell ⟨t.b, 3, none⟩ v') := own1 3 v'
  have hb' : Blk w' t.b _ _ := h.blk.kept kk (fun hb => by have := (ownsRow_block h.names hb).1; omega)
  have hb2 := hb'.setCell 3 v'
  refine { h with
    blk := ?_
    gl := (h.gl.kept kk (fun hl hx => by have := (ownsRow_block h.names hx).1; have := h.bl hl; omega)).kept k2 (fun hl => h.ne hl)
    next := by rw [e1]; exact h.next
    names := ?_
    nrel := hrel
    groups := hgr
    fold0 := by rw [e1]; exact h.fold0
    fok := by rw [e2.1, e2.2.1, e2.2.2]; exact h.fok }
  · rw [e1, e2.1, e2.2.1, e2.2.2]; exact hb2
  · have := ownsRow_kept hown k2 (fun b hb he => by have := (ownsRow_block hown hb).1; omega)
    simpa using this

theorem NRel.plain {st : RS} {nl : List (List UInt8)} (h : NRel st nl) : NRel { st with groups := st.groups + 1 } (nl ++ [[]]) := by
  refine ⟨by simp [h.1], fun x hx => ?_, h.2.2.1, fun hn x i hx => ?_⟩
  · rw [h.2.1 x hx]
    cases x with
    | nil => exact absurd rfl hx
    | cons a l => simp
  · rw [h.2.2.2 hn x i hx]
    constructor
    · rintro ⟨j, rfl, hj⟩
      refine ⟨j, rfl, ?_⟩
      rw [List.getElem?_append_left (by have := (List.getElem?_eq_some_iff.1 hj).1; omega)]; exact hj
    · rintro ⟨j, rfl, hj⟩
      refine ⟨j, rfl, ?_⟩
      by_cases hlt : j < nl.length
      · rw [List.getElem?_append_left hlt] at hj; exact hj
      · rw [List.getElem?_append_right (by omega)] at hj
        cases hd : j - nl.length with
        | zero => rw [hd] at hj; simp at hj; first | exact absurd hj hx | exact absurd hj.symm hx
        | succ m => rw [hd] at hj; simp at hj

/-- 'alt' as the program's mirror says, at a tree with fewer than k runes to come -/
def AltT (g : RG) (k : Nat) : Prop := ∀ (w : World) (t : TG) (st : RS) (fold : Int) (vn : Value) (nl : List (List UInt8)), TrAt w t g st fold vn nl → g.rs.length - st.next < k → (pAlt g k st).1.flt.form = none →
  Calls Tryz.prog 13 #[.pointer (some ⟨t.b, 0, none⟩)] w (NdPost w t g fold vn (pAlt g k st) (rAlt g k fold st))

/-- the node of a bracket -/
theorem bracket_node {w wa w2 w3 : World} {t : TG} {g : RG} {st st3 : RS} {fold : Int} {vn va vn2 : Value} {nl nl3 : List (List UInt8)} {A : PT} {RA : RT} {b2 nb kb : Nat} {op : ByteArray} {grp : Int}
    (hT : TrAt w t g st fold vn nl) (ka : Kept (fun i => i = t.b ∨ vn.ownBlock = some i) w wa) (hnb : nb = w.heap.size) (hnba : nb < wa.heap.size)
    (hva : ∀ i, va.ownBlock = some i → vn.ownBlock = some i ∨ nb < i)
    (q2 : NdAt w2 (Fr wa.heap.size w2.heap.size vn2) b2 A RA) (q3 : Kept (fun i => i = t.b ∨ va.ownBlock = some i) wa w2) (q4 : ∀ i, vn2.ownBlock = some i → va.ownBlock = some i ∨ wa.heap.size ≤ i) (hv2 : ∀ i, vn2.ownBlock = some i → i < w2.heap.size)
    (h3 : TrAt w3 t g st3 fold vn2 nl3) (k3 : Kept (fun i => i = t.b ∨ i = nb) w2 w3) (hkid : w3.cell? ⟨kb, 0, none⟩ = some (.pointer (some ⟨b2, 0, none⟩))) (hkb : w2.heap.size ≤ kb)
    (hblk : Blk w3 nb (nodeCells op (.slice none 0 0) false false (.slice (some ⟨kb, 0, none⟩) 1 1) grp 0 0 false) 77) (hop : OpOf op 1) :
    NdPost w t g fold vn (st3, .node 1 [A] 0 0) (.node op [] false false [RA] grp 0 0 false) (.returned (.pointer (some ⟨nb, 0, none⟩))) w3 := by
  have sa := ka.size
  have s2 := q3.size
  have s3 := k3.size
  have htb := hT.blt
  have hvn : ∀ i, vn.ownBlock = some i → i < w.heap.size := fun i hi => (ownsRow_block hT.names hi).2
  have hne : vn2.ownBlock ≠ some nb := fun e => by
    rcases q4 nb e with h | h
    · rcases hva nb h with h | h
      · have := hvn nb h; omega
      · omega
    · omega
  refine ⟨nb, vn2, nl3, rfl, h3, ?_, ?_, fun i hi => ?_⟩
  · refine NdAt.mk nb op [] none 0 0 false false false grp 0 0 1 0 0 (some ⟨kb, 0, none⟩) 1 kb [A] [RA] (fun _ => b2) hblk ⟨by omega, hblk.lt, hne⟩ hop (by omega) (fun _ => ⟨rfl, by omega, cell_lt hkid, fun e => by have := hv2 kb e; omega⟩) (fun i hi => ?_) rfl (fun i hi hi2 => ?_) ⟨by omega, by omega, by simp, by omega⟩ (SpOf.nil _ _)
    · have : i = 0 := by simp at hi; omega
      subst this; exact hkid
    · have : i = 0 := by simp at hi; omega
      subst this
      exact (q2.kept k3 (fun i hi e => by have := hi.1; rcases e with e | e <;> omega)).widen (fun i hi _ => ⟨by have := hi.1; omega, by have := hi.2.1; omega, hi.2.2⟩)
  · refine (ka.trans' q3 (fun i hi he => ?_)).trans' k3 (fun i hi he => ?_)
    · rcases he with he | he
      · exact Or.inl he
      · rcases hva i he with h | h
        · exact Or.inr h
        · omega
    · rcases he with he | he
      · exact Or.inl he
      · omega
  · rcases q4 i hi with h | h
    · rcases hva i h with h | h
      · exact Or.inl h
      · exact Or.inr (by omega)
    · exact Or.inr (by omega)
end Go.Proofs.YtagehbmipookbaaGreatDoor
