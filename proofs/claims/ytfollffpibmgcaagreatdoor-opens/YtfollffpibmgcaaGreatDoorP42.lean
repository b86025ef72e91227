/- The reference's tree: times. The reference's tree: a bracket without a name. -/
import Derived.Test.YtfollffpibmgcaaGreatDoorP40
import Derived.Test.YtfollffpibmgcaaGreatDoorP41
set_option linter.unusedVariables false
set_option maxRecDepth 100000
namespace Go.Proofs.YtfollffpibmgcaaGreatDoor
open Go.RowKit
set_option maxRecDepth 100000
theorem pHigh_form {g : RG} {st : RS} (h : (pHigh g st).1.flt.form = none) : st.flt.form = none := by
 unfold pHigh at h
 split at h
 ·exact h
 ·have : ∀ s : RS, (pDigit g s).1.flt.form = none → s.flt.form = none := by
   intro s hs
   unfold pDigit at hs
   split at hs
   ·exact hs
   ·exact absurd hs (refuse_form g s)
  unfold pNumber at h
  split at h
  ·exact this _ (this _ h)
  ·exact this _ h
theorem times_tr {w : World} {t : TG} {g : RG} {st st1 : RS} {A : PT} {RA : RT} {fold : Int} {vn : Value} {nl : List (List UInt8)} (hT : TrAt w t g st fold vn nl) (hAt : Calls Tryz.prog 73 #[.pointer (some ⟨t.b, 0, none⟩)] w (NdPost w t g fold vn (st1, A) RA))
  (hf : (pRepeated g A st1).1.flt.form = none) :
  Calls Tryz.prog 47 #[.pointer (some ⟨t.b, 0, none⟩)] w (NdPost w t g fold vn (pRepeated g A st1) (rRepeated g RA st1)) := by
 unfold pRepeated at hf ⊢
 unfold rRepeated
 rw [show inSet lStar (seeOf g st1) = (seeOf g st1 == 42) from inOne' 42 _, show inSet lPlus (seeOf g st1) = (seeOf g st1 == 43) from inOne' 43 _, show inSet lQuery (seeOf g st1) = (seeOf g st1 == 63) from inOne' 63 _, show inSet lOpenBrace (seeOf g st1) = (seeOf g st1 == 123) from inOne' 123 _] at hf ⊢
 cases n1 : (seeOf g st1 == 42)
 ·cases n2 : (seeOf g st1 == 43)
  ·cases n3 : (seeOf g st1 == 63)
   ·cases n4 : (seeOf g st1 == 123)
    ·simp only [Bool.false_eq_true, if_false]
     exact times_none hT hAt n1 n2 n3 n4
    ·rw [n1, n2, n3, n4] at hf
     simp only [Bool.false_eq_true, if_false, if_true] at hf ⊢
     rw [takeOf_form] at hf
     have hx : (pBounds g { st1 with next := st1.next + 1 }).1.flt.form = none := by
      split at hf
      ·rw [note_form (by omega)] at hf; exact hf
      ·exact hf
     clear hf
     rw [show seeOf g (pBounds g { st1 with next := st1.next + 1 }).1 = seeOf g (repNote (pBounds g { st1 with next := st1.next + 1 }).1 (pBounds g { st1 with next := st1.next + 1 }).2.1 (pBounds g { st1 with next := st1.next + 1 }).2.2 (placeOf g st1)) from by unfold seeOf; rw [repNote_next]]
     show Calls Tryz.prog 47 #[.pointer (some ⟨t.b, 0, none⟩)] w (NdPost w t g fold vn (takeOf g lQuery (repNote (pBounds g { st1 with next := st1.next + 1 }).1 (pBounds g { st1 with next := st1.next + 1 }).2.1 (pBounds g { st1 with next := st1.next + 1 }).2.2 (placeOf g st1)), .node 4 [A] (pBounds g { st1 with next := st1.next + 1 }).2.1 (pBounds g { st1 with next := st1.next + 1 }).2.2) (rTimes RA (pBounds g { st1 with next := st1.next + 1 }).2.1 (pBounds g { st1 with next := st1.next + 1 }).2.2 (inSet lQuery (seeOf g (repNote (pBounds g { st1 with next := st1.next + 1 }).1 (pBounds g { st1 with next := st1.next + 1 }).2.1 (pBounds g { st1 with next := st1.next + 1 }).2.2 (placeOf g st1))))))
     unfold pBounds at hx ⊢
     by_cases hc : inSet lComma (seeOf g (pNumber g { st1 with next := st1.next + 1 }).1) = true
     ·rw [if_pos hc] at hx ⊢
      obtain ⟨a1, a2, a3⟩ := needSt_form hx
      have hbr : seeOf g (pNumber g { st1 with next := st1.next + 1 }).1 = 44 := by rw [comma_eq] at hc; simpa using hc
      have hf1 : (pNumber g { st1 with next := st1.next + 1 }).1.flt.form = none := pHigh_form (st := { (pNumber g { st1 with next := st1.next + 1 }).1 with next := (pNumber g { st1 with next := st1.next + 1 }).1.next + 1 }) a2
      have hnd : inSet lDigits (seeOf g (pNumber g { st1 with next := st1.next + 1 }).1) = false := by rw [hbr]; decide
      simp only
      rw [a3]
      clear a3 hx hc
      unfold pHigh at a1 a2 ⊢
      by_cases hb : inSet lBrace (seeOf g { (pNumber g { st1 with next := st1.next + 1 }).1 with next := (pNumber g { st1 with next := st1.next + 1 }).1.next + 1 }) = true
      ·rw [if_pos hb]
       exact times_open hT hAt n4 n1 n2 n3 hf1 hnd hbr (by rw [brace_eq] at hb; simpa using hb)
      ·rw [if_neg hb] at a1 a2 ⊢
       have hb3 : seeOf g (pNumber g { (pNumber g { st1 with next := st1.next + 1 }).1 with next := (pNumber g { st1 with next := st1.next + 1 }).1.next + 1 }).1 = 125 := by rw [brace_eq] at a1; simpa using a1
       exact times_two hT hAt n4 n1 n2 n3 hf1 hnd hbr (by intro e; rw [brace_eq] at hb; exact hb (by simp [e])) a2 (by rw [hb3]; decide) hb3
     ·rw [if_neg hc] at hx ⊢
      obtain ⟨a1, a2, a3⟩ := needSt_form hx
      have hbr : seeOf g (pNumber g { st1 with next := st1.next + 1 }).1 = 125 := by rw [brace_eq] at a1; simpa using a1
      simp only
      rw [a3]
      exact times_one hT hAt n4 n1 n2 n3 a2 (by rw [hbr]; decide) hbr
   ·simp only [Bool.false_eq_true, if_false, if_true]
    exact times_query hT hAt n3 n1 n2
  ·simp only [Bool.false_eq_true, if_false, if_true]
   exact times_plus hT hAt n2 n1
 ·simp only [if_true]
  exact times_star hT hAt n1
theorem pNumber_form {g : RG} {s : RS} (h : (pNumber g s).1.flt.form = none) : s.flt.form = none := by
 have : ∀ s : RS, (pDigit g s).1.flt.form = none → s.flt.form = none := by
  intro s hs
  unfold pDigit at hs
  split at hs
  ·exact hs
  ·exact absurd hs (refuse_form g s)
 unfold pNumber at h
 split at h
 ·exact this _ (this _ h)
 ·exact this _ h
theorem pBounds_form {g : RG} {s : RS} (h : (pBounds g s).1.flt.form = none) : s.flt.form = none := by
 unfold pBounds at h
 split at h
 ·have h1 := pHigh_form (needSt_form h).2.1
  exact pNumber_form h1
 ·exact pNumber_form (needSt_form h).2.1
theorem pRepeated_form {g : RG} {A : PT} {s : RS} (h : (pRepeated g A s).1.flt.form = none) : s.flt.form = none := by
 unfold pRepeated at h
 split at h
 ·rw [takeOf_form] at h; exact h
 ·split at h
  ·rw [takeOf_form] at h; exact h
  ·split at h
   ·rw [takeOf_form] at h; exact h
   ·split at h
    ·simp only at h
     rw [takeOf_form] at h
     split at h
     ·rw [note_form (by omega)] at h; exact pBounds_form (s := { s with next := s.next + 1 }) h
     ·exact pBounds_form (s := { s with next := s.next + 1 }) h
    ·exact h
theorem pLetters_flt (g : RG) (first : Nat) : ∀ (m : Nat) (st : RS), (pLetters g first m st).flt = st.flt
 | 0, _ => rfl
 | m + 1, st => by
  unfold pLetters
  split
  ·exact pLetters_flt g first m { st with next := st.next + 1 }
  ·rfl
theorem pNamed_form (g : RG) (first : Nat) (st : RS) : (pNamed g first st).flt.form = st.flt.form := by
 unfold pNamed
 split
 ·exact note_form (by omega)
 ·rfl
theorem pName_form {g : RG} {s : RS} (h : (pName g s).flt.form = none) : s.flt.form = none := by
 have h1 := (needSt_form h).2.1
 rw [pNamed_form, pLetters_flt] at h1
 exact (needSt_form h1).2.1
theorem pHead_form {g : RG} {s : RS} (h : (pHead g s).flt.form = none) : s.flt.form = none := by
 unfold pHead at h
 split at h
 ·exact h
 ·split at h
  ·exact pName_form (s := { s with next := s.next + 2, groups := s.groups + 1 }) h
  ·have h1 := (needSt_form h).2.1
   rw [takeOf_form] at h1
   exact h1
def AltForm (alt : RS → RS × PT) : Prop := ∀ s, (alt s).1.flt.form = none → s.flt.form = none
theorem pBracket_form {g : RG} {alt : RS → RS × PT} (ha : AltForm alt) {s : RS} (h : (pBracket g alt s).1.flt.form = none) : s.flt.form = none := pHead_form (ha _ (needSt_form h).2.1)
theorem pClass_form {g : RG} {s : RS} (h : (pClass g s).flt.form = none) : s.flt.form = none := by
 have h1 := pItem_form (pItems_form (needSt_form h).2.1)
 rw [takeOf_form] at h1
 exact h1
theorem pAtom_form {g : RG} {alt : RS → RS × PT} (ha : AltForm alt) {s : RS} (h : (pAtom g alt s).1.flt.form = none) : s.flt.form = none := by
 unfold pAtom at h
 split at h
 ·exact pBracket_form (s := { s with next := s.next + 1 }) ha h
 ·split at h
  ·exact pClass_form (s := { s with next := s.next + 1 }) h
  ·split at h
   ·exact (needSt_form (st := { s with next := s.next + 1 }) h).2.1
   ·split at h
    ·exact h
    ·exact (needOtherSt_form h).2.2.1
theorem pSeqs_form {g : RG} {alt : RS → RS × PT} (ha : AltForm alt) : ∀ (m : Nat) (s : RS) (acc : List PT), (pSeqs g alt m s acc).1.flt.form = none → s.flt.form = none
 | 0, _, _, h => h
 | m + 1, s, acc, h => by
  unfold pSeqs at h
  split at h
  ·exact h
  ·exact pAtom_form ha (pRepeated_form (pSeqs_form ha m _ _ h))
theorem pSeq_form {g : RG} {alt : RS → RS × PT} (ha : AltForm alt) {s : RS} (h : (pSeq g alt s).1.flt.form = none) : s.flt.form = none := pSeqs_form ha _ _ _ h
theorem pAlts_form {g : RG} {alt : RS → RS × PT} (ha : AltForm alt) : ∀ (m : Nat) (s : RS) (acc : List PT), (pAlts g alt m s acc).1.flt.form = none → s.flt.form = none
 | 0, _, _, h => h
 | m + 1, s, acc, h => by
  unfold pAlts at h
  split at h
  ·exact pSeq_form (s := { s with next := s.next + 1 }) ha (pAlts_form ha m _ _ h)
  ·exact h
theorem pAlt_form (g : RG) : ∀ k, AltForm (pAlt g k)
 | 0, _, h => h
 | k + 1, s, h => by
  unfold pAlt at h
  exact pSeq_form (pAlt_form g k) (pAlts_form (pAlt_form g k) _ _ _ h)
theorem TrAt.setFold {w : World} {t : TG} {g : RG} {st : RS} {fold : Int} {vn : Value} {nl : List (List UInt8)} (h : TrAt w t g st fold vn nl) (f : Int) (hf : 0 ≤ f ∧ f ≤ st.next) : TrAt (w.setCell ⟨t.b, 2, none⟩ (.int .i64 f)) t g st f vn nl := by
 have k : Kept (fun i => i = t.b) w (w.setCell ⟨t.b, 2, none⟩ (.int .i64 f)) := own1 2 _
 exact { h with
  blk := h.blk.setCell 2 _
  gl := h.gl.kept k (fun hl => h.ne hl)
  names := ownsRow_kept h.names k (fun b hb he => by have := (ownsRow_block h.names hb).1; omega)
  fold0 := hf }
theorem TrAt.pushName {w w1 w' : World} {t : TG} {g : RG} {st st2 : RS} {fold : Int} {vn v' : Value} {nl : List (List UInt8)} (h : TrAt w t g st fold vn nl) (x : List UInt8) (k1 : Kept Nil w w1)
  (hown : w'.ownsRow (t.b + 1) 9 1 v' (nl.length + 1) ((nl.map fun x => .string ⟨x.toArray⟩) ++ [.string ⟨x.toArray⟩])) (hg : w1.grownBy w' vn.ownBlock)
  (e1 : st2.next = st.next) (e2 : st2.flt.rep = st.flt.rep ∧ st2.flt.cls = st.flt.cls ∧ st2.flt.nam = st.flt.nam) (hrel : NRel st2 (nl ++ [x])) (hgr : st2.groups ≤ st2.next) :
  TrAt (w'.setCell ⟨t.b, 3, none⟩ v') t g st2 fold v' (nl ++ [x]) := by
 have kk : Kept (fun i => vn.ownBlock = some i) w w' := (k1.mono (fun _ hx => hx.elim)).grown hg (fun j hj => Or.inl hj)
 have k2 : Kept (fun i => i = t.b) w' (w'.setCell ⟨t.b, 3, none⟩ v') := own1 3 v'
 have hb' : Blk w' t.b _ _ := h.blk.kept kk (fun hb => by have := (ownsRow_block h.names hb).1; omega)
 have hb2 := hb'.setCell 3 v'
 refine { h with
  blk := ?_
  gl := (h.gl.kept kk (fun hl hx => by have := (ownsRow_block h.names hx).1; have := h.bl hl; omega)).kept k2 (fun hl => h.ne hl)
  next := by rw [e1]; exact h.next
  names := ?_
  nrel := hrel
  groups := hgr
  fold0 := by rw [e1]; exact h.fold0
  fok := by rw [e2.1, e2.2.1, e2.2.2]; exact h.fok }
 ·rw [e1, e2.1, e2.2.1, e2.2.2]; exact hb2
 ·have := ownsRow_kept hown k2 (fun b hb he => by have := (ownsRow_block hown hb).1; omega)
  simpa using this
theorem NRel.plain {st : RS} {nl : List (List UInt8)} (h : NRel st nl) : NRel { st with groups := st.groups + 1 } (nl ++ [[]]) := by
 refine ⟨by simp [h.1], fun x hx => ?_, h.2.2.1, fun hn x i hx => ?_⟩
 ·rw [h.2.1 x hx]
  cases x with
  | nil => exact absurd rfl hx
  | cons a l => simp
 ·rw [h.2.2.2 hn x i hx]
  constructor
  ·rintro ⟨j, rfl, hj⟩
   refine ⟨j, rfl, ?_⟩
   rw [List.getElem?_append_left (by have := (List.getElem?_eq_some_iff.1 hj).1; omega)]; exact hj
  ·rintro ⟨j, rfl, hj⟩
   refine ⟨j, rfl, ?_⟩
   by_cases hlt : j < nl.length
   ·rw [List.getElem?_append_left hlt] at hj; exact hj
   ·rw [List.getElem?_append_right (by omega)] at hj
    cases hd : j - nl.length with
    | zero => rw [hd] at hj; simp at hj; first | exact absurd hj hx | exact absurd hj.symm hx
    | succ m => rw [hd] at hj; simp at hj
def AltT (g : RG) (k : Nat) : Prop := ∀ (w : World) (t : TG) (st : RS) (fold : Int) (vn : Value) (nl : List (List UInt8)), TrAt w t g st fold vn nl → g.rs.length - st.next < k → (pAlt g k st).1.flt.form = none →
 Calls Tryz.prog 21 #[.pointer (some ⟨t.b, 0, none⟩)] w (NdPost w t g fold vn (pAlt g k st) (rAlt g k fold st))
theorem bracket_node {w wa w2 w3 : World} {t : TG} {g : RG} {st st3 : RS} {fold : Int} {vn va vn2 : Value} {nl nl3 : List (List UInt8)} {A : PT} {RA : RT} {b2 nb kb : Nat} {op : ByteArray} {grp : Int}
  (hT : TrAt w t g st fold vn nl) (ka : Kept (fun i => i = t.b ∨ vn.ownBlock = some i) w wa) (hnb : nb = w.heap.size) (hnba : nb < wa.heap.size)
  (hva : ∀ i, va.ownBlock = some i → vn.ownBlock = some i ∨ nb < i)
  (q2 : NdAt w2 (Fr wa.heap.size w2.heap.size vn2) b2 A RA) (q3 : Kept (fun i => i = t.b ∨ va.ownBlock = some i) wa w2) (q4 : ∀ i, vn2.ownBlock = some i → va.ownBlock = some i ∨ wa.heap.size ≤ i) (hv2 : ∀ i, vn2.ownBlock = some i → i < w2.heap.size)
  (h3 : TrAt w3 t g st3 fold vn2 nl3) (k3 : Kept (fun i => i = t.b ∨ i = nb) w2 w3) (hkid : w3.cell? ⟨kb, 0, none⟩ = some (.pointer (some ⟨b2, 0, none⟩))) (hkb : w2.heap.size ≤ kb)
  (hblk : Blk w3 nb (nodeCells op (.slice none 0 0) false false (.slice (some ⟨kb, 0, none⟩) 1 1) grp 0 0 false) 126) (hop : OpOf op 1) :
  NdPost w t g fold vn (st3, .node 1 [A] 0 0) (.node op [] false false [RA] grp 0 0 false) (.returned (.pointer (some ⟨nb, 0, none⟩))) w3 := by
 have sa := ka.size
 have s2 := q3.size
 have s3 := k3.size
 have htb := hT.blt
 have hvn : ∀ i, vn.ownBlock = some i → i < w.heap.size := fun i hi => (ownsRow_block hT.names hi).2
 have hne : vn2.ownBlock ≠ some nb := fun e => by
  rcases q4 nb e with h | h
  ·rcases hva nb h with h | h
   ·have := hvn nb h; omega
   ·omega
  ·omega
 refine ⟨nb, vn2, nl3, rfl, h3, ?_, ?_, fun i hi => ?_⟩
 ·refine NdAt.mk nb op [] none 0 0 false false false grp 0 0 1 0 0 (some ⟨kb, 0, none⟩) 1 kb [A] [RA] (fun _ => b2) hblk ⟨by omega, hblk.lt, hne⟩ hop (by omega) (fun _ => ⟨rfl, by omega, cell_lt hkid, fun e => by have := hv2 kb e; omega⟩) (fun i hi => ?_) rfl (fun i hi hi2 => ?_) ⟨by omega, by omega, by simp, by omega⟩ (SpOf.nil _ _)
  ·have : i = 0 := by simp at hi; omega
   subst this; exact hkid
  ·have : i = 0 := by simp at hi; omega
   subst this
   exact (q2.kept k3 (fun i hi e => by have := hi.1; rcases e with e | e <;> omega)).widen (fun i hi _ => ⟨by have := hi.1; omega, by have := hi.2.1; omega, hi.2.2⟩)
 ·refine (ka.trans' q3 (fun i hi he => ?_)).trans' k3 (fun i hi he => ?_)
  ·rcases he with he | he
   ·exact Or.inl he
   ·rcases hva i he with h | h
    ·exact Or.inr h
    ·omega
  ·rcases he with he | he
   ·exact Or.inl he
   ·omega
 ·rcases q4 i hi with h | h
  ·rcases hva i h with h | h
   ·exact Or.inl h
   ·exact Or.inr (by omega)
  ·exact Or.inr (by omega)
end Go.Proofs.YtfollffpibmgcaaGreatDoor
namespace Go.Proofs.YtfollffpibmgcaaGreatDoor
open Go.RowKit Go.Maps
set_option maxRecDepth 100000
theorem op1 {op : ByteArray} (h1 : (op.data.toList == [115, 101, 113]) = false) (h2 : (op.data.toList == [97, 108, 116]) = false) (h3 : (op.data.toList == [116, 105, 109, 101, 115]) = false) : OpOf op 1 :=
 Or.inr (Or.inr (Or.inr ⟨Or.inr rfl, by rw [Lib.toList_data]; exact h1, by rw [Lib.toList_data]; exact h2, by rw [Lib.toList_data]; exact h3⟩))
theorem op_group : OpOf sGroup 1 := op1 (by decide) (by decide) (by decide)
theorem op_bare : OpOf sBare 1 := op1 (by decide) (by decide) (by decide)
theorem Tryz.infoStr : (Tryz.prog.info? 9).map (fun i => (i.zero, i.size, i.bytes)) = some (some (.string ⟨#[]⟩), 1, 16) := by kernel_rfl
abbrev bNode (op : ByteArray) : Obj := .cells (nodeCells op (.slice none 0 0) false false (.slice none 0 0) 0 0 0 false) 126
set_option maxRecDepth 100000 in
set_option maxHeartbeats 4000000 in
theorem bracket_group {w : World} {t : TG} {g : RG} {st : RS} {fold : Int} {vn : Value} {nl : List (List UInt8)} {k : Nat} (hA : AltT g k) (hT : TrAt w t g st fold vn nl) (hlt : st.next < t.l.length) (hrem : g.rs.length - st.next ≤ k)
  (hq : (seeOf g { st with next := st.next + 1 } == 63) = false) (hf : (pBracket g (pAlt g k) { st with next := st.next + 1 }).1.flt.form = none) :
  Calls Tryz.prog 100 #[.pointer (some ⟨t.b, 0, none⟩)] w (NdPost w t g fold vn (pBracket g (pAlt g k) { st with next := st.next + 1 }) (rBracket g (rAlt g k) fold { st with next := st.next + 1 })) := by
 have hl := hT.len
 have hlr := hT.lenr
 have htb := hT.blt
 obtain ⟨i0, hi0, hz0, hz1, hz2⟩ := info_parts Tryz.infoStr
 have hph : pHead g { st with next := st.next + 1 } = (⟨st.next + 1, st.flt, st.groups + 1, st.names⟩ : RS) := by
  unfold pHead
  rw [show inSet lQuery (seeOf g { st with next := st.next + 1 }) = (seeOf g { st with next := st.next + 1 } == 63) from inOne' 63 _, hq]
  rfl
 have HR : Hid (rBracket g (rAlt g k) fold { st with next := st.next + 1 } = .node sGroup [] false false [rAlt g k fold (⟨st.next + 1, st.flt, st.groups + 1, st.names⟩ : RS)] ((nl.length : Int) + 1) 0 0 false) := by
  show _ = _
  unfold rBracket
  rw [if_pos (by rw [inQ]; exact hq), hph, hT.nrel.1]
 unfold pBracket at hf ⊢
 rw [hph] at hf ⊢
 clear hph
 obtain ⟨a1, a2, a3⟩ := needSt_form hf
 rw [a3]
 clear a3 hf
 obtain ⟨X, hX⟩ : ∃ X, pAlt g k (⟨st.next + 1, st.flt, st.groups + 1, st.names⟩ : RS) = X := ⟨_, rfl⟩
 rw [hX] at a1 a2 ⊢
 have HS : Hid (pAlt g k (⟨st.next + 1, st.flt, st.groups + 1, st.names⟩ : RS) = X) := hX
 clear hX
 have c1 : w.cell? ⟨t.b, 1, none⟩ = some (.int .i64 st.next) := hT.blk.cell 1
 have f1 : w.frozen? ⟨t.b, 1, none⟩ = false := hT.blk.frozen 1
 have hgr := hT.groups
 go_enter Tryz.func100, Tryz.ntmps100
 go_wp2_with fail
 have h1 : TrAt ((w.setCell ⟨t.b, 1, none⟩ (.int .i64 ((st.next : Int) + 1))).alloc (bNode sGroup)) t g { st with next := st.next + 1 } fold vn nl := (hT.step hlt).nil ((Kept.refl _ _).alloc _)
 have k1 : Kept (fun i => i = t.b ∨ vn.ownBlock = some i) w ((w.setCell ⟨t.b, 1, none⟩ (.int .i64 ((st.next : Int) + 1))).alloc (bNode sGroup)) := ((own1 (w := w) (t := t) 1 (.int .i64 ((st.next : Int) + 1))).mono (fun i hi => Or.inl hi)).alloc _
 have b1 : Blk ((w.setCell ⟨t.b, 1, none⟩ (.int .i64 ((st.next : Int) + 1))).alloc (bNode sGroup)) w.heap.size (nodeCells sGroup (.slice none 0 0) false false (.slice none 0 0) 0 0 0 false) 126 := Blk.new' _ _ (by rw [size_set])
 refine (Tr_atL h1).mono ?_
 rintro e w2 ⟨rfl, h2, hk2⟩
 have k2 := k1.trans (hk2.mono (fun i hi => Or.inl hi))
 have b2 := b1.kept hk2 (by omega)
 have s2 := b2.lt
 clear h1 k1 b1 hk2 c1 f1
 have hvn : ∀ i, vn.ownBlock = some i → i < w.heap.size := fun i hi => (ownsRow_block hT.names hi).2
 have hnl : nl.length ≤ 300 := by have := hT.nrel.1; have := hT.next; omega
 have cp0 : w2.cell? ⟨w.heap.size, 0, none⟩ = some (.string ⟨#[103, 114, 111, 117, 112]⟩) := b2.cell 0
 have cp3 : w2.cell? ⟨t.b, 3, none⟩ = some vn := h2.blk.cell 3
 have sp := b2.lt
 go_wp2_with (at_builtin; refine wpList_append_own_at _ rfl _ _ 34 rfl (t.b + 1) 9 i0 _ 1 16 Tryz.underlying34 hi0 hz0 hz1 hz2 rfl (by decide) _ _ _ rfl (h2.names.alloc _) ⟨w2.heap.size, 0, none⟩ 1 1 [.string ⟨#[]⟩] rfl rfl ?c1 ?c2 ?c3 ?c4 ?c5 ?_)
 first
  | (case c1 => exact cell_one_new _ _ _)
  | skip
 case c2 => first | rfl | (intro u hu; simp at hu; subst hu; rfl)
 case c3 => unfold maxLen; omega
 case c4 => omega
 case c5 => first | omega | (rw [size_alloc1]; omega) | (simp; omega)
 intro v' w3 hown' hgrow hnil hloc
 have kg : Kept (fun i => vn.ownBlock = some i) w2 w3 := ((Kept.refl _ _).alloc _).grown hgrow (fun j hj => Or.inl hj)
 have b3 := b2.kept kg (fun e => by have := hvn _ e; omega)
 have h4 : TrAt (w3.setCell ⟨t.b, 3, none⟩ v') t g (⟨st.next + 1, st.flt, st.groups + 1, st.names⟩ : RS) fold v' (nl ++ [[]]) := TrAt.pushName h2 [] ((Kept.refl _ _).alloc _) hown' hgrow rfl ⟨rfl, rfl, rfl⟩ hT.nrel.plain (by simp; omega)
 have hva : ∀ i, v'.ownBlock = some i → vn.ownBlock = some i ∨ w.heap.size < i := by
  intro i hi
  rcases hloc with h | h
  ·exact Or.inl (h ▸ hi)
  ·rw [h] at hi; cases hi; exact Or.inr (by omega)
 obtain ⟨ao3, cc3, hv3⟩ := ownsRow_slice hown'
 rw [hv3] at h4 hva ⊢
 have k4 := (k2.trans' kg (fun i hi he => Or.inr he)).trans ((own1 (w := w3) (t := t) 3 (.slice ao3 (nl.length + 1) cc3)).mono (fun i hi => Or.inl hi))
 have c35 : w3.cell? ⟨w.heap.size, 5, none⟩ = some (.int .i64 0) := b3.cell 5
 have f35 : w3.frozen? ⟨w.heap.size, 5, none⟩ = false := b3.frozen 5
 have htb3 : t.b < w3.heap.size := by have := b3.lt; omega
 have bt3 := h2.blk.kept kg (fun hb => by have := (ownsRow_block h2.names hb).1; omega)
 have f33 : w3.frozen? ⟨t.b, 3, none⟩ = false := bt3.frozen 3
 have c33 : w3.cell? ⟨t.b, 3, none⟩ = some vn := bt3.cell 3
 have c32 : w3.cell? ⟨t.b, 2, none⟩ = some (.int .i64 fold) := bt3.cell 2
 have f32 : w3.frozen? ⟨t.b, 2, none⟩ = false := bt3.frozen 2
 clear hown' hgrow hnil hloc hv3
 have k5 : Kept (fun i => i = w.heap.size) (w3.setCell ⟨t.b, 3, none⟩ (.slice ao3 (nl.length + 1) cc3)) ((w3.setCell ⟨t.b, 3, none⟩ (.slice ao3 (nl.length + 1) cc3)).setCell ⟨w.heap.size, 5, none⟩ (.int .i64 ((nl.length : Int) + 1))) := (Kept.refl (fun i => i = w.heap.size) _).setCell (p := ⟨w.heap.size, 5, none⟩) (Or.inl rfl) _
 have h5 := h4.new hT k5 (fun i hi => by omega) (fun b hb hx => (hva b hb).elim (fun h => by have := hvn b h; omega) (fun h => by omega))
 have b5 := (b3.setCell_other (p := ⟨t.b, 3, none⟩) (show w.heap.size ≠ t.b by omega) (.slice ao3 (nl.length + 1) cc3)).setCell 5 (.int .i64 ((nl.length : Int) + 1))
 have kx := k4.trans' k5 (fun i hi he => by omega)
 obtain ⟨wx, hwx⟩ : ∃ wx, wx = (w3.setCell ⟨t.b, 3, none⟩ (.slice ao3 (nl.length + 1) cc3)).setCell ⟨w.heap.size, 5, none⟩ (.int .i64 ((nl.length : Int) + 1)) := ⟨_, rfl⟩
 have hx := h5
 have bx := b5
 rw [← hwx] at hx bx kx
 clear h5 b5 h4 k4 k5
 have htx : t.b < wx.heap.size := hx.blt
 have hxn := hx.next
 have hf0 := hT.fold0
 have cx2 : wx.cell? ⟨t.b, 2, none⟩ = some (.int .i64 fold) := hx.blk.cell 2
 have fx2 : wx.frozen? ⟨t.b, 2, none⟩ = false := hx.blk.frozen 2
 have hf6 : 0 ≤ fold ∧ fold ≤ (((st.next + 1) : Nat) : Int) := by omega
 have h6 := hx.setFold fold hf6
 have b6 := bx.setCell_other (p := ⟨t.b, 2, none⟩) (show w.heap.size ≠ t.b by omega) (.int .i64 fold)
 have k6 := kx.trans ((own1 (w := wx) (t := t) 2 (.int .i64 fold)).mono (fun i hi => Or.inl hi))
 go_wp2_with fail
 rw [← hwx]
 clear hwx
 refine (hA _ t _ _ _ _ h6 (by show g.rs.length - (st.next + 1) < k; omega) (by rw [HS.out]; exact a2)).mono ?_
 rw [HS.out]
 rintro e w7 ⟨b7, vn7, nl7, rfl, h7, q2, q3, q4⟩
 have hv7 : ∀ i, vn7.ownBlock = some i → i < w7.heap.size := fun i hi => (ownsRow_block h7.names hi).2
 have b7' := b6.kept q3 (by rintro (e | e); · omega
                            · rcases hva _ e with h | h
                              · have := hvn _ h; omega
                              · omega)
 have s7 := q3.size
 rw [size_set] at s7
 have sx := bx.lt
 have hX := h7.next
 have hxl := lt_of_see (g := g) (st := X.1) (by intro e; rw [e, inSet_end] at a1; exact absurd a1 (by simp))
 have hf7 := h7.fold0
 have c74 : w7.cell? ⟨w.heap.size, 4, none⟩ = some (.slice none 0 0) := b7'.cell 4
 have f74 : w7.frozen? ⟨w.heap.size, 4, none⟩ = false := b7'.frozen 4
 have c72 : w7.cell? ⟨t.b, 2, none⟩ = some (.int .i64 fold) := h7.blk.cell 2
 have f72 : w7.frozen? ⟨t.b, 2, none⟩ = false := h7.blk.frozen 2
 have c71 : w7.cell? ⟨t.b, 1, none⟩ = some (.int .i64 X.1.next) := h7.blk.cell 1
 have f71 : w7.frozen? ⟨t.b, 1, none⟩ = false := h7.blk.frozen 1
 have htb7 := h7.blt
 have hnb7 := b7'.lt
 have hX300 : X.1.next ≤ 300 := by omega
 have k8 : Kept (fun i => i = w.heap.size) w7 (w7.setCell ⟨w.heap.size, 4, none⟩ (.slice (some ⟨w7.heap.size, 0, none⟩) 1 1)) := (Kept.refl (fun i => i = w.heap.size) w7).setCell (p := ⟨w.heap.size, 4, none⟩) (Or.inl rfl) _
 have h8 := h7.new hT k8 (fun i hi => by omega) (fun b hb hx => by
  rcases q4 b hb with h | h
  ·rcases hva b h with h | h
   ·have := hvn b h; omega
   ·omega
  ·rw [size_set] at h; omega)
 have h9 := ((h8.setFold fold (by omega)).step (by omega)).nil ((Kept.refl Nil _).alloc (.cells #[.pointer (some ⟨b7, 0, none⟩)] 33))
 have k9 : Kept (fun i => i = t.b ∨ i = w.heap.size) w7 _ := (((k8.mono (fun i hi => Or.inr hi)).trans ((own1 (t := t) 2 (.int .i64 fold)).mono (fun i hi => Or.inl hi))).trans ((own1 (t := t) 1 (.int .i64 ((X.1.next : Int) + 1))).mono (fun i hi => Or.inl hi))).alloc (.cells #[.pointer (some ⟨b7, 0, none⟩)] 33)
 have b9 := (((b7'.setCell 4 (.slice (some ⟨w7.heap.size, 0, none⟩) 1 1)).setCell_other (p := ⟨t.b, 2, none⟩) (show w.heap.size ≠ t.b by omega) (.int .i64 fold)).setCell_other (p := ⟨t.b, 1, none⟩) (show w.heap.size ≠ t.b by omega) (.int .i64 ((X.1.next : Int) + 1))).alloc (.cells #[.pointer (some ⟨b7, 0, none⟩)] 33)
 have bk9 : Blk ((((w7.setCell ⟨w.heap.size, 4, none⟩ (.slice (some ⟨w7.heap.size, 0, none⟩) 1 1)).setCell ⟨t.b, 2, none⟩ (.int .i64 fold)).setCell ⟨t.b, 1, none⟩ (.int .i64 ((X.1.next : Int) + 1))).alloc (.cells #[.pointer (some ⟨b7, 0, none⟩)] 33)) w7.heap.size #[.pointer (some ⟨b7, 0, none⟩)] 33 := Blk.new' _ _ (by simp only [size_set])
 go_wp2_with fail
 go_ret
 rw [HR.out]
 exact bracket_node (wa := wx.setCell ⟨t.b, 2, none⟩ (.int .i64 fold)) hT k6 rfl (by rw [size_set]; exact sx) hva q2 q3 q4 hv7 h9 k9 (bk9.cell 0) (Nat.le_refl _) b9 op_group
end Go.Proofs.YtfollffpibmgcaaGreatDoor
