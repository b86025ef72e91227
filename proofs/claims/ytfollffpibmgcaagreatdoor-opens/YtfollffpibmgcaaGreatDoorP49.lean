/- The reference: the size of a node; the tree of a whole pattern. The first byte that is no part of a rune: told alike; the reader leaves it as it is. -/
import Derived.Test.YtfollffpibmgcaaGreatDoorP48
import Derived.Test.YtfollffpibmgcaaGreatDoorP23
import Derived.Test.YtfollffpibmgcaaGreatDoorP35
import Derived.Test.YtfollffpibmgcaaGreatDoorP25
set_option linter.unusedVariables false
set_option maxRecDepth 100000
namespace Go.Proofs.YtfollffpibmgcaaGreatDoor
open Go.RowKit Go.Maps
set_option maxRecDepth 100000
theorem alt_all (g : RG) : ∀ k, AltT g k
 | 0 => fun _ _ _ _ _ _ _ h => absurd h (by omega)
 | k + 1 => alt_tr (alt_all g k)
theorem NdAt.size_range {w : World} {U : Nat → Prop} {b : Nat} {T : PT} {R : RT} (h : NdAt w U b T R) : 0 ≤ T.size ∧ T.size ≤ 1001 := by
 induction h with
 | mk b op sp aos caps bs nt fd lz grp least most kk l hh ao cap bk ts rs P hblk hlo hop hlm hb hc hl hk hr hsp ih =>
  have hs := sizes_range ts (fun i h => ih i h (by omega))
  obtain ⟨r1, r2, r3, r4⟩ := hr
  have hc := copies_range r1 r2
  have hm := mul_range hc (s := PT.sizes ts + 1) (by omega)
  unfold PT.size
  simp only
  have hne : kk = 3 → 0 < ts.length := fun e => List.length_pos_iff.2 (r4 e)
  refine ⟨?_, by omega⟩
  have : 0 ≤ (if kk = 0 ∨ kk = 1 then PT.sizes ts + 1 else if kk = 3 then PT.sizes ts + ((ts.length : Int) - 1) else if kk = 4 then (if hh = -1 then l + 1 else hh) * (PT.sizes ts + 1) else PT.sizes ts) := by
   split
   ·omega
   ·split
    ·rename_i e; have := hne e; omega
    ·split
     ·exact hm.1
     ·exact hs.1
  omega
theorem Size_ref {w : World} {U : Nat → Prop} {b : Nat} {T : PT} {R : RT} (h : NdAt w U b T R) : ∀ w', Kept Nil w w' →
  Calls Tryz.prog 22 #[.pointer (some ⟨b, 0, none⟩)] w' fun e w'' => e = .returned (.int .i64 T.size) ∧ Kept Nil w' w'' := by
 induction h with
 | mk b op sp aos caps bs nt fd lz grp least most kk l hh ao cap bk ts rs P hblk hlo hop hlm hb hc hl hk hr hsp ih =>
  intro w' hw
  have IH : Hid (∀ i (h : i < ts.length) (w' : World), Kept Nil w w' → Calls Tryz.prog 22 #[.pointer (some ⟨P i, 0, none⟩)] w' fun e w'' => e = .returned (.int .i64 (ts[i]).size) ∧ Kept Nil w' w'') := fun i h => ih i h (by omega)
  have hkr : ∀ i, (h : i < ts.length) → 0 ≤ (ts[i]).size ∧ (ts[i]).size ≤ 1001 := fun i h => (hk i h (by omega)).size_range
  have HS := sizes_range ts hkr
  clear ih hk hsp hl
  obtain ⟨r1, r2, r3, r4⟩ := hr
  have x0 := hblk.kept hw (fun hx => hx)
  go_enter Tryz.func22, Tryz.ntmps22
  go_wp2_with fail
  go_loopg [3, 4] ts.length (fun kk s i wr => ∃ j : Nat, j ≤ ts.length ∧ i = .int .i64 j ∧ s = .int .i64 (PT.sizes (ts.take j)) ∧ kk = ts.length - j ∧ Kept Nil w' wr ∧ Blk wr b (nodeCells op (.slice aos sp.length caps) nt fd (.slice ao ts.length cap) grp least most lz) 126)
  case atStart => exact ⟨0, Nat.zero_le _, rfl, by simp [PT.sizes], rfl, Kept.refl _ _, x0⟩
  case round =>
   obtain ⟨j, hj, rfl, rfl, rfl, hkw, hbw⟩ := hrel
   have hsj := sizes_range (ts.take j) (fun i hi => by have := hkr i (by simp at hi; omega); simpa using this)
   have hlj : (ts.take j).length ≤ 400 := by simp; omega
   have d4 : wr.cell? ⟨b, 4, none⟩ = some (.slice ao ts.length cap) := hbw.cell 4
   by_cases hlt : j < ts.length
   ·obtain ⟨rfl, b1⟩ := hb (by intro e; subst e; simp at hlt)
    have hcj := hc j hlt
    have kk := hw.trans hkw
    have q0 : wr.cell? ⟨bk, j, none⟩ = some (.pointer (some ⟨P j, 0, none⟩)) := (kk.cell (p := ⟨bk, j, none⟩) (cell_lt hcj) (fun hx => hx)).trans hcj
    have hkj := hkr j hlt
    have STK : Hid (PT.sizes (ts.take (j + 1)) = PT.sizes (ts.take j) + (ts[j]).size) := sizes_take ts j hlt
    have hjI : (j : Int) < (ts.length : Int) := by omega
    clear hb hc hcj hkr
    have IHJ : Hid (∀ (w' : World), Kept Nil w w' → Calls Tryz.prog 22 #[.pointer (some ⟨P j, 0, none⟩)] w' fun e w'' => e = .returned (.int .i64 (ts[j]).size) ∧ Kept Nil w' w'') := IH.out j hlt
    clear IH
    go_wp2_with fail
    refine (IHJ.out _ kk).mono ?_
    rintro e w2 ⟨rfl, hk2⟩
    have hb2 := hbw.kept hk2 (fun hx => hx)
    have kw2 := hkw.trans hk2
    clear q0 hk2 hbw hkw
    go_wp2_with fail
    go_roundg (ts.length - (j + 1))
    case measure => omega
    case rel => exact ⟨j + 1, by omega, by go_num, by rw [STK.out], rfl, kw2, hb2⟩
   ·have ej : j = ts.length := by omega
    subst ej
    rw [List.take_length] at hsj hlj ⊢
    have hjI : ¬ ((ts.length : Nat) : Int) < (ts.length : Int) := by omega
    have hcr := copies_range r1 r2
    have hm := mul_range hcr (s := PT.sizes ts + 1) (by omega)
    clear IH hb hc hkr
    rcases hop with ⟨rfl, rfl⟩ | ⟨rfl, rfl⟩ | ⟨rfl, rfl⟩ | ⟨hk01, o1, o2, o3⟩
    ·have d0 : wr.cell? ⟨b, 0, none⟩ = some (.string ⟨#[115, 101, 113]⟩) := hbw.cell 0
     go_wp2_with fail
     all_goals go_ret
     all_goals exact ⟨ret_int (by unfold PT.size; simp; omega), hkw⟩
    ·have d0 : wr.cell? ⟨b, 0, none⟩ = some (.string ⟨#[97, 108, 116]⟩) := hbw.cell 0
     have hpos : 0 < ts.length := List.length_pos_iff.2 (r4 rfl)
     go_wp2_with fail
     all_goals go_ret
     all_goals exact ⟨ret_int (by unfold PT.size; simp; omega), hkw⟩
    ·have d0 : wr.cell? ⟨b, 0, none⟩ = some (.string ⟨#[116, 105, 109, 101, 115]⟩) := hbw.cell 0
     obtain ⟨rfl, rfl⟩ := hlm rfl
     have d6 : wr.cell? ⟨b, 6, none⟩ = some (.int .i64 least) := hbw.cell 6
     have d7 : wr.cell? ⟨b, 7, none⟩ = some (.int .i64 most) := hbw.cell 7
     by_cases hmo : most = -1
     ·have hneg : most < 0 := by omega
      have HCC : Hid ((if most = -1 then least + 1 else most) = least + 1) := if_pos hmo
      rw [if_pos hmo] at hcr hm
      clear hmo
      go_wp2_with fail
      all_goals go_ret
      all_goals exact ⟨ret_int (by unfold PT.size; simp only [HCC.out]; simp; omega), hkw⟩
     ·have hneg : ¬ most < 0 := by omega
      have HCC : Hid ((if most = -1 then least + 1 else most) = most) := if_neg hmo
      rw [if_neg hmo] at hcr hm
      clear hmo
      go_wp2_with fail
      all_goals go_ret
      all_goals exact ⟨ret_int (by unfold PT.size; simp only [HCC.out]; simp; omega), hkw⟩
    ·have d0 : wr.cell? ⟨b, 0, none⟩ = some (.string op) := hbw.cell 0
     go_wp2_with fail
     all_goals go_ret
     all_goals (refine ⟨ret_int ?_, hkw⟩)
     all_goals (unfold PT.size; rcases hk01 with rfl | rfl <;> simp <;> omega)
end Go.Proofs.YtfollffpibmgcaaGreatDoor
namespace Go.Proofs.YtfollffpibmgcaaGreatDoor
set_option maxRecDepth 100000
theorem prefix3 (m : List UInt8) (x y z : UInt8) : Lib.hasPrefix m [x, y, z] = ((m[0]? == some x) && (m[1]? == some y) && (m[2]? == some z)) := by
 unfold Lib.hasPrefix
 match m with
 | [] => rfl
 | [a] => simp [List.isPrefixOf]
 | [a, b] => simp [List.isPrefixOf]
 | a :: b :: c :: r =>
  simp only [List.isPrefixOf, Bool.and_true, List.getElem?_cons_zero, List.getElem?_cons_succ, Option.some_beq_some]
  rw [Bool.and_assoc, BEq.comm (a := x), BEq.comm (a := y), BEq.comm (a := z)]
theorem byte_at (s : ByteArray) (j : Nat) (x : UInt8) : (s.data.toList[j]? == some x) = (decide (j < s.size) && at! s j == x.toNat) := by
 by_cases h : j < s.size
 ·have h' : j < s.data.toList.length := by simpa using h
  rw [List.getElem?_eq_getElem h', at!_eq s j h, decide_eq_true h, Bool.true_and, Option.some_beq_some]
  have e : s.data.toList[j] = s[j] := rfl
  rw [e, Bool.eq_iff_iff]
  simp only [beq_iff_eq]
  constructor
  ·rintro rfl; rfl
  ·exact fun h => UInt8.toNat_inj.1 h
 ·rw [List.getElem?_eq_none (by have : ¬ j < s.data.toList.length := by simpa using h
                                omega), decide_eq_false h]
  rfl
theorem bad_ok (s : ByteArray) (i : Nat) (h : i < s.size) : isBad s (i, ((Utf8.decode s i).1 : Int)) = !okAt s i := by
 unfold isBad okAt okN
 rw [← decode_eq]
 have hp : Lib.hasPrefix (s.extract i s.size).data.toList [239, 191, 189] = (decide (i + 1 < s.size) && decide (i + 2 < s.size) && at! s i == 239 && at! s (i + 1) == 191 && at! s (i + 2) == 189) := by
  rw [prefix3]
  have e : ∀ k, (s.extract i s.size).data.toList[k]? = s.data.toList[i + k]? := by
   intro k
   rw [ByteArray.data_extract, Array.toList_extract]
   simp only [List.extract_eq_take_drop, List.getElem?_take, List.getElem?_drop]
   split
   ·rfl
   ·rw [List.getElem?_eq_none]
    have : s.data.toList.length = s.size := by simp
    omega
  rw [e 0, e 1, e 2, byte_at, byte_at, byte_at, decide_eq_true (show i + 0 < s.size by omega)]
  simp only [Nat.add_zero, Bool.true_and]
  rw [show (239 : UInt8).toNat = 239 from rfl, show (191 : UInt8).toNat = 191 from rfl, show (189 : UInt8).toNat = 189 from rfl]
  cases decide (i + 1 < s.size) <;> cases decide (i + 2 < s.size) <;> simp
 rw [hp]
 generalize (decide (i + 1 < s.size) && decide (i + 2 < s.size) && at! s i == 239 && at! s (i + 1) == 191 && at! s (i + 2) == 189) = B
 generalize (Utf8.decode s i).1 = r
 have e : (((r : Int)) == 65533) = (r == 65533) := by
  rw [Bool.eq_iff_iff]; simp; omega
 simp only [e]
 rw [bne, Bool.not_or, Bool.not_not]
theorem scan_mem (s : ByteArray) : ∀ (m pos : Nat) (p : Nat × Int), p ∈ scanFrom s m pos → p.1 < s.size ∧ p.2 = ((Utf8.decode s p.1).1 : Int)
 | 0, _, _, h => by simp [scanFrom] at h
 | m + 1, pos, p, h => by
  unfold scanFrom at h
  split at h
  ·rename_i hlt
   rcases List.mem_cons.1 h with rfl | h
   ·exact ⟨hlt, rfl⟩
   ·exact scan_mem s m _ p h
  ·simp at h
theorem scan_len (s : ByteArray) : ∀ (m pos : Nat), (scanFrom s m pos).length ≤ s.size - pos
 | 0, _ => by simp [scanFrom]
 | m + 1, pos => by
  unfold scanFrom
  split
  ·rename_i hlt
   have := scan_len s m (pos + (Utf8.decode s pos).2)
   have := decode_pos s pos hlt
   simp; omega
  ·simp
theorem scan_find (s : ByteArray) : (scan s).find? (fun p => !okAt s p.1) = (scan s).find? (isBad s) := by
 have : ∀ (l : List (Nat × Int)), (∀ p ∈ l, p.1 < s.size ∧ p.2 = ((Utf8.decode s p.1).1 : Int)) → l.find? (fun p => !okAt s p.1) = l.find? (isBad s) := by
  intro l
  induction l with
  | nil => intro _; rfl
  | cons p l ih =>
   intro h
   have hp := h p List.mem_cons_self
   have e : (!okAt s p.1) = isBad s p := by
    rw [← bad_ok s p.1 hp.1, ← hp.2]
   simp only [List.find?_cons, e]
   rw [ih (fun q hq => h q (List.mem_cons_of_mem _ hq))]
 exact this _ (fun p hp => scan_mem s _ _ p hp)
theorem fltOf_go (s : ByteArray) : ∀ (l : List (Nat × Int)) (F : Flt), l.foldl (fun F p => if isBad s p then F.note 2 p.1 else F) F = { F with rune := F.rune.or ((l.find? (isBad s)).map fun p => (p.1 : Int)) }
 | [], F => by cases F; simp
 | p :: l, F => by
  rw [List.foldl_cons, fltOf_go s l, List.find?_cons]
  cases hb : isBad s p
  ·simp
  ·obtain ⟨r, a, b, c, d, e⟩ := F
   cases r <;> simp [Flt.note, Flt.get, Flt.put]
theorem fltOf_eq (s : ByteArray) (l : List (Nat × Int)) : fltOf s l = { flt0 with rune := (l.find? (isBad s)).map fun p => (p.1 : Int) } := by
 unfold fltOf
 rw [fltOf_go]
 simp [flt0]
theorem broken_rune (s : ByteArray) : (∀ p, (st0 s).flt.rune = some p → brokenOf s = p ∧ 0 ≤ p) ∧ ((st0 s).flt.rune = none → brokenOf s = -1 ∧ (st0 s).flt = flt0) ∧ (st0 s).flt.form = none ∧ (st0 s).flt.big = none := by
 have e : (st0 s).flt = { flt0 with rune := ((scan s).find? (isBad s)).map fun p => (p.1 : Int) } := fltOf_eq s _
 unfold brokenOf
 rw [scan_find, e]
 cases h : (scan s).find? (isBad s) with
 | none => exact ⟨fun p hp => by simp at hp, fun _ => ⟨rfl, rfl⟩, rfl, rfl⟩
 | some q => exact ⟨fun p hp => by simp at hp; subst hp; exact ⟨rfl, by omega⟩, fun hp => by simp at hp, rfl, rfl⟩
def Two (a b : Flt) : Prop := a.rune = b.rune ∧ a.big = b.big
theorem Two.refl (a : Flt) : Two a a := ⟨rfl, rfl⟩
theorem Two.trans {a b c : Flt} (h : Two a b) (k : Two b c) : Two a c := ⟨h.1.trans k.1, h.2.trans k.2⟩
theorem note_two (st : RS) (e p : Int) (h : 3 ≤ e ∧ e ≤ 6) : Two (st.note e p).flt st.flt := by
 unfold RS.note Flt.note
 simp only
 split
 ·exact Two.refl _
 ·unfold Flt.put
  repeat' split
  all_goals first | exact ⟨rfl, rfl⟩ | (exfalso; omega)
variable {g : RG}
theorem refuse_two (st : RS) : Two (refuseOf g st).flt st.flt := note_two st 3 _ (by omega)
theorem need_two (l : List UInt8) (st : RS) : Two (needSt g l st).flt st.flt := by
 unfold needSt
 split
 ·exact Two.refl _
 ·exact refuse_two st
theorem needOther_two (l : List UInt8) (st : RS) : Two (needOtherSt g l st).flt st.flt := by
 unfold needOtherSt
 split
 ·exact refuse_two st
 ·exact Two.refl _
theorem take_two (l : List UInt8) (st : RS) : Two (takeOf g l st).flt st.flt := by
 unfold takeOf
 split <;> exact Two.refl _
theorem pDigit_two (st : RS) : Two (pDigit g st).1.flt st.flt := by
 unfold pDigit
 split
 ·exact Two.refl _
 ·exact refuse_two st
theorem pNumber_two (st : RS) : Two (pNumber g st).1.flt st.flt := by
 unfold pNumber
 split
 ·exact (pDigit_two _).trans (pDigit_two _)
 ·exact pDigit_two _
theorem pHigh_two (st : RS) : Two (pHigh g st).1.flt st.flt := by
 unfold pHigh
 split
 ·exact Two.refl _
 ·exact pNumber_two _
theorem pBounds_two (st : RS) : Two (pBounds g st).1.flt st.flt := by
 unfold pBounds
 split
 ·exact ((need_two _ _).trans (pHigh_two _)).trans (pNumber_two st)
 ·exact (need_two _ _).trans (pNumber_two st)
theorem pOne'_two (st : RS) : Two (pOne' g st).1.flt st.flt := by
 unfold pOne' pOne
 split
 ·exact (need_two _ _).trans (take_two _ _)
 ·exact (needOther_two _ _).trans (take_two _ _)
theorem pItem_two (st : RS) : Two (pItem g st).flt st.flt := by
 unfold pItem
 split
 ·exact Two.refl _
 ·unfold pUpto
  split
  ·split
   ·exact ((note_two _ 5 _ (by omega)).trans (pOne'_two _)).trans (pOne'_two st)
   ·exact (pOne'_two _).trans (pOne'_two st)
  ·exact pOne'_two st
theorem pItems_two : ∀ (m : Nat) (st : RS), Two (pItems g m st).flt st.flt
 | 0, st => Two.refl _
 | m + 1, st => by
  unfold pItems
  split
  ·exact Two.refl _
  ·exact (pItems_two m _).trans (pItem_two st)
theorem pClass_two (st : RS) : Two (pClass g st).flt st.flt := (((need_two _ _).trans (pItems_two _ _)).trans (pItem_two _)).trans (take_two _ _)
theorem pLetters_two (first : Nat) : ∀ (m : Nat) (st : RS), Two (pLetters g first m st).flt st.flt
 | 0, _ => Two.refl _
 | m + 1, st => by
  unfold pLetters
  split
  ·exact pLetters_two first m { st with next := st.next + 1 }
  ·exact Two.refl _
theorem pNamed_two (first : Nat) (st : RS) : Two (pNamed g first st).flt st.flt := by
 unfold pNamed
 split
 ·exact note_two _ 6 _ (by omega)
 ·exact Two.refl _
theorem pName_two (st : RS) : Two (pName g st).flt st.flt := (((need_two _ _).trans (pNamed_two _ _)).trans (pLetters_two _ _ _)).trans (need_two _ _)
theorem pRepeated_two (A : PT) (st : RS) : Two (pRepeated g A st).1.flt st.flt := by
 unfold pRepeated
 split
 ·exact take_two _ _
 ·split
  ·exact take_two _ _
  ·split
   ·exact take_two _ _
   ·split
    ·simp only
     refine (take_two _ _).trans ?_
     split
     ·exact (note_two _ 4 _ (by omega)).trans (pBounds_two _)
     ·exact pBounds_two _
    ·exact Two.refl _
theorem pHead_two (st : RS) : Two (pHead g st).flt st.flt := by
 unfold pHead
 split
 ·exact Two.refl _
 ·split
  ·exact pName_two _
  ·exact (need_two _ _).trans (take_two _ _)
def AltTwo (alt : RS → RS × PT) : Prop := ∀ st, Two (alt st).1.flt st.flt
theorem pAtom_two {alt : RS → RS × PT} (ha : AltTwo alt) (st : RS) : Two (pAtom g alt st).1.flt st.flt := by
 unfold pAtom
 split
 ·exact ((need_two _ _).trans (ha _)).trans (pHead_two _)
 ·split
  ·exact pClass_two _
  ·split
   ·exact need_two _ _
   ·split
    ·exact Two.refl _
    ·exact needOther_two _ _
theorem pSeqs_two {alt : RS → RS × PT} (ha : AltTwo alt) : ∀ (m : Nat) (st : RS) (acc : List PT), Two (pSeqs g alt m st acc).1.flt st.flt
 | 0, _, _ => Two.refl _
 | m + 1, st, acc => by
  unfold pSeqs
  split
  ·exact Two.refl _
  ·exact ((pSeqs_two ha m _ _).trans (pRepeated_two _ _)).trans (pAtom_two ha st)
theorem pAlts_two {alt : RS → RS × PT} (ha : AltTwo alt) : ∀ (m : Nat) (st : RS) (acc : List PT), Two (pAlts g alt m st acc).1.flt st.flt
 | 0, _, _ => Two.refl _
 | m + 1, st, acc => by
  unfold pAlts
  split
  ·exact (pAlts_two ha m _ _).trans (pSeqs_two ha _ _ _)
  ·exact Two.refl _
theorem pAlt_two : ∀ k, AltTwo (pAlt g k)
 | 0, _ => Two.refl _
 | k + 1, st => by
  unfold pAlt
  exact (pAlts_two (pAlt_two k) _ _ _).trans (pSeqs_two (pAlt_two k) _ _ _)
theorem pWhole_two (st : RS) : Two (pWhole g st).1.flt st.flt := by
 unfold pWhole
 split
 ·exact pAlt_two _ _
 ·exact (refuse_two _).trans (pAlt_two _ _)
end Go.Proofs.YtfollffpibmgcaaGreatDoor
