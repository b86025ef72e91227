/- The reference's tree: bracket. The reference's tree: a list of nodes that is being made. -/
import Derived.Test.YtfollffpibmgcaaGreatDoorP44
namespace Go.Proofs.YtfollffpibmgcaaGreatDoor
open Go.RowKit Go.Maps
set_option linter.unusedVariables false
set_option maxRecDepth 100000
theorem bracket_tr {w : World} {t : TG} {g : RG} {st : RS} {fold : Int} {vn : Value} {nl : List (List UInt8)} {k : Nat} (hA : AltT g k) (hT : TrAt w t g st fold vn nl) (hlt : st.next < t.l.length) (hrem : g.rs.length - st.next ≤ k)
  (hf : (pBracket g (pAlt g k) { st with next := st.next + 1 }).1.flt.form = none) :
  Calls Tryz.prog 100 #[.pointer (some ⟨t.b, 0, none⟩)] w (NdPost w t g fold vn (pBracket g (pAlt g k) { st with next := st.next + 1 }) (rBracket g (rAlt g k) fold { st with next := st.next + 1 })) := by
 cases hq : (seeOf g { st with next := st.next + 1 } == 63)
 ·exact bracket_group hA hT hlt hrem hq hf
 ·have hf' : (pHead g { st with next := st.next + 1 }).flt.form = none := pAlt_form g k _ (needSt_form hf).2.1
  unfold pHead at hf'
  rw [show inSet lQuery (seeOf g { st with next := st.next + 1 }) = (seeOf g { st with next := st.next + 1 } == 63) from inOne' 63 _, hq] at hf'
  simp only [Bool.true_eq_false, if_false] at hf'
  rw [show inSet lLess (seeOf g { st with next := st.next + 2 }) = (seeOf g { st with next := st.next + 2 } == 60) from inOne' 60 _] at hf'
  cases hr : (seeOf g { st with next := st.next + 2 } == 60)
  ·rw [hr] at hf'
   simp only [Bool.false_eq_true, if_false] at hf'
   obtain ⟨a1, a2, a3⟩ := needSt_form hf'
   cases hi : (seeOf g { st with next := st.next + 2 } == 105)
   ·have e : takeOf g lI { st with next := st.next + 2 } = { st with next := st.next + 2 } := by
     unfold takeOf
     rw [show inSet lI (seeOf g { st with next := st.next + 2 }) = (seeOf g { st with next := st.next + 2 } == 105) from inOne' 105 _, hi]
     rfl
    rw [e, show inSet lColon (seeOf g { st with next := st.next + 2 }) = (seeOf g { st with next := st.next + 2 } == 58) from inOne' 58 _] at a1
    exact bracket_bare hA hT hlt hrem hq a1 hf
   ·have e : takeOf g lI { st with next := st.next + 2 } = { st with next := st.next + 3 } := by
     unfold takeOf
     rw [show inSet lI (seeOf g { st with next := st.next + 2 }) = (seeOf g { st with next := st.next + 2 } == 105) from inOne' 105 _, hi]
     rfl
    rw [e] at a1
    have hl := seeOf_lt a1
    have hlr := hT.lenr
    simp only at hl
    exact bracket_fold hA hT hlt hrem hq hi (by omega) hf
  ·exact bracket_named_tr hA hT hlt hrem hq hr hf
theorem times_all {w : World} {t : TG} {g : RG} {st : RS} {fold : Int} {vn : Value} {nl : List (List UInt8)} {k : Nat} (hA : AltT g k) (hT : TrAt w t g st fold vn nl) (hrem : g.rs.length - st.next ≤ k)
  (hf : (pRepeated g (pAtom g (pAlt g k) st).2 (pAtom g (pAlt g k) st).1).1.flt.form = none)
  (hC : seeOf g st = 91 → ∀ w, TrAt w t g st fold vn nl → Calls Tryz.prog 101 #[.pointer (some ⟨t.b, 0, none⟩)] w (NdPost w t g fold vn (pClass g { st with next := st.next + 1 }, single) (rClass g fold { st with next := st.next + 1 }))) :
  Calls Tryz.prog 47 #[.pointer (some ⟨t.b, 0, none⟩)] w (NdPost w t g fold vn (pRepeated g (pAtom g (pAlt g k) st).2 (pAtom g (pAlt g k) st).1) (rRepeated g (rAtom g (rAlt g k) fold st) (pAtom g (pAlt g k) st).1)) := by
 have hlr := hT.lenr
 have hfa := pRepeated_form hf
 refine times_tr hT ?_ hf
 refine atom_tr hT hfa (fun h40 w' hT' => ?_) hC
 have hlt := lt_of_see (g := g) (st := st) (by rw [h40]; omega)
 refine bracket_tr hA hT' (by omega) hrem ?_
 unfold pAtom at hfa
 rw [show inSet lOpenRound (seeOf g st) = (seeOf g st == 40) from inOne' 40 _, h40] at hfa
 exact hfa
abbrev ptr (b : Nat) : Value := .pointer (some ⟨b, 0, none⟩)
structure KsAt (w : World) (base hi : Nat) (vk vn : Value) (Ps : List Nat) (ts : List PT) (rs : List RT) : Prop where
 own : w.ownsRow base 33 1 vk ts.length (Ps.map ptr)
 len : Ps.length = ts.length
 rlen : rs.length = ts.length
 few : ts.length ≤ 400
 le : hi ≤ w.heap.size
 apart : ∀ b, vk.ownBlock = some b → vn.ownBlock ≠ some b
 kid : ∀ i, (h : i < ts.length) → (h' : i < Ps.length) → (h3 : i < rs.length) → NdAt w (fun j => base ≤ j ∧ j < hi ∧ vk.ownBlock ≠ some j ∧ vn.ownBlock ≠ some j) Ps[i] ts[i] rs[i]
theorem KsAt.nil (w : World) (base hi : Nat) (vn : Value) (h : hi ≤ w.heap.size) : KsAt w base hi (.slice none 0 0) vn [] [] [] := ⟨World.ownsRow_nil _ _ _ _, rfl, rfl, by simp, h, fun b hb => by simp [Value.ownBlock] at hb, fun i h => by simp at h⟩
theorem KsAt.kept {w w' : World} {base hi : Nat} {vk vn vn' : Value} {Ps : List Nat} {ts : List PT} {rs : List RT} {S : Nat → Prop} (h : KsAt w base hi vk vn Ps ts rs) (k : Kept S w w') (hs : ∀ j, S j → j < base ∨ vn.ownBlock = some j ∨ hi ≤ j) (hvk : ∀ b, vk.ownBlock = some b → ¬ S b)
  (hv : ∀ i, vn'.ownBlock = some i → vn.ownBlock = some i ∨ w.heap.size ≤ i) : KsAt w' base hi vk vn' Ps ts rs where
 own := ownsRow_kept h.own k hvk
 len := h.len
 rlen := h.rlen
 few := h.few
 le := Nat.le_trans h.le k.size
 apart b hb e := by
  rcases hv b e with h1 | h1
  ·exact h.apart b hb h1
  ·have := (ownsRow_block h.own hb).2; omega
 kid i h1 h2 h3 := by
  refine ((h.kid i h1 h2 h3).kept k (fun j hj hx => ?_)).widen (fun j hj _ => ⟨hj.1, hj.2.1, hj.2.2.1, fun e => ?_⟩)
  ·rcases hs j hx with h3 | h3 | h3
   ·have := hj.1; omega
   ·exact hj.2.2.2 h3
   ·have := hj.2.1; omega
  ·rcases hv j e with h3 | h3
   ·exact hj.2.2.2 h3
   ·have := hj.2.1; have := h.le; omega
theorem KsAt.up {w : World} {base hi hi' : Nat} {vk vn : Value} {Ps : List Nat} {ts : List PT} {rs : List RT} (h : KsAt w base hi vk vn Ps ts rs) (h1 : hi ≤ hi') (h2 : hi' ≤ w.heap.size) : KsAt w base hi' vk vn Ps ts rs :=
 ⟨h.own, h.len, h.rlen, h.few, h2, h.apart, fun i a b c => (h.kid i a b c).widen (fun j hj _ => ⟨hj.1, by have := hj.2.1; omega, hj.2.2⟩)⟩
theorem KsAt.snoc {w w1 w' : World} {base hi lo hi2 : Nat} {vk v' vn : Value} {Ps : List Nat} {ts : List PT} {rs : List RT} {b : Nat} {T : PT} {R : RT} (h : KsAt w base hi vk vn Ps ts rs) (hq : NdAt w (Fr lo hi2 vn) b T R) (hlo : base ≤ lo) (hvl : ∀ b, vk.ownBlock = some b → b < lo) (hhi : hi2 ≤ w.heap.size) (hvn : ∀ b, vn.ownBlock = some b → b < w.heap.size)
  (k1 : Kept Nil w w1) (hown : w'.ownsRow base 33 1 v' (ts.length + 1) (Ps.map ptr ++ [ptr b])) (hg : w1.grownBy w' vk.ownBlock) (hloc : v'.ownBlock = vk.ownBlock ∨ v'.ownBlock = some w1.heap.size) (hfew : ts.length + 1 ≤ 400) :
  KsAt w' base w'.heap.size v' vn (Ps ++ [b]) (ts ++ [T]) (rs ++ [R]) := by
 have kk : Kept (fun i => vk.ownBlock = some i) w w' := (k1.mono (fun _ hx => hx.elim)).grown hg (fun j hj => Or.inl hj)
 have hsz : w.heap.size ≤ w1.heap.size := k1.size
 have hle := h.le
 have hrl := h.rlen
 refine ⟨by simpa using hown, by simp [h.len], by simp [h.rlen], by simpa using hfew, Nat.le_refl _, fun c hc e => ?_, fun i hi1 hi2' hi3 => ?_⟩
 ·rcases hloc with hl | hl
  ·exact h.apart c (hl ▸ hc) e
  ·rw [hl] at hc; cases hc; have := hvn _ e; omega
 ·by_cases hlt : i < ts.length
  ·have a3 := h.kid i hlt (by rw [h.len]; exact hlt) (by rw [h.rlen]; exact hlt)
   have e1 : (Ps ++ [b])[i] = Ps[i]'(by rw [h.len]; exact hlt) := List.getElem_append_left _
   have e2 : (ts ++ [T])[i] = ts[i] := List.getElem_append_left _
   have e3 : (rs ++ [R])[i] = rs[i]'(by rw [h.rlen]; exact hlt) := List.getElem_append_left _
   rw [e1, e2, e3]
   refine (a3.kept kk (fun j hj hx => hj.2.2.1 hx)).widen (fun j hj hjs => ⟨hj.1, hjs, fun e => ?_, hj.2.2.2⟩)
   rcases hloc with hl | hl
   ·exact hj.2.2.1 (hl ▸ e)
   ·rw [hl] at e; cases e; have := hj.2.1; omega
  ·have hi' : i = ts.length := by simp at hi1; omega
   subst hi'
   have e1 : (Ps ++ [b])[ts.length] = b := by simp [← h.len]
   have e2 : (ts ++ [T])[ts.length] = T := by simp
   have e3 : (rs ++ [R])[ts.length] = R := by simp [← h.rlen]
   rw [e1, e2, e3]
   refine (hq.kept kk (fun j hj hx => by have := hvl j hx; have := hj.1; omega)).widen (fun j hj hjs => ⟨by have := hj.1; omega, hjs, fun e => ?_, hj.2.2⟩)
   rcases hloc with hl | hl
   ·have := hvl j (hl ▸ e); have := hj.1; omega
   ·rw [hl] at e; cases e; have := hj.2.1; omega
theorem KsAt.node {w : World} {base hi lo : Nat} {vk vn : Value} {Ps : List Nat} {ts : List PT} {rs : List RT} (h : KsAt w base hi vk vn Ps ts rs) {b : Nat} {op : ByteArray} {kk : Int} (hblk : Blk w b (nodeCells op (.slice none 0 0) false false vk 0 0 0 false) 126) (hlo : lo ≤ b) (hb : b < hi) (hbn : vn.ownBlock ≠ some b) (hbase : lo ≤ base) (hop : OpOf op kk) (hk4 : kk ≠ 4) (hk3 : kk = 3 → ts ≠ []) :
  NdAt w (Fr lo w.heap.size vn) b (.node kk ts 0 0) (.node op [] false false rs 0 0 0 false) := by
 have kids : ∀ i, (h' : i < ts.length) → (h3 : i < rs.length) → NdAt w (Fr lo w.heap.size vn) (Ps.getD i 0) ts[i] rs[i] := by
  intro i hi' hi3
  have hi2 : i < Ps.length := by rw [h.len]; exact hi'
  have e : Ps.getD i 0 = Ps[i] := by simp [List.getD, List.getElem?_eq_getElem hi2]
  rw [e]
  exact (h.kid i hi' hi2 hi3).widen (fun j hj hjs => ⟨by have := hj.1; omega, hjs, hj.2.2.2⟩)
 have hle := h.le
 have own := h.own
 have apart := h.apart
 rcases own.2 with ⟨rfl, hn⟩ | ⟨g, cap, cur, rfl, a1, a2, a3, a4, a5, a6⟩
 ·have e : ts = [] := List.length_eq_zero_iff.1 hn
  subst e
  have er : rs = [] := List.length_eq_zero_iff.1 h.rlen
  subst er
  exact NdAt.mk b op [] none 0 0 false false false 0 0 0 kk 0 0 none 0 0 [] [] (fun _ => 0) hblk ⟨hlo, by omega, hbn⟩ hop (fun h => absurd h hk4) (fun h => absurd rfl h) (fun i h => by simp at h) rfl (fun i h => by simp at h) ⟨by omega, by omega, by simp, hk3⟩ (SpOf.nil _ _)
 ·refine NdAt.mk b op [] none 0 0 false false false 0 0 0 kk 0 0 _ cap g ts rs (fun i => Ps.getD i 0) hblk ⟨hlo, by omega, hbn⟩ hop (fun h => absurd h hk4) (fun _ => ⟨rfl, by omega, (Array.getElem?_eq_some_iff.1 a2).1, apart g rfl⟩) (fun i hi' => ?_) h.rlen kids ⟨by omega, by omega, h.few, hk3⟩ (SpOf.nil _ _)
  have hi2 : i < Ps.length := by rw [h.len]; exact hi'
  have e : Ps.getD i 0 = Ps[i] := by simp [List.getD, List.getElem?_eq_getElem hi2]
  rw [e]
  have hx : (Ps.map ptr)[i]? = some (ptr Ps[i]) := by simp [List.getElem?_eq_getElem hi2]
  rw [← a6, List.getElem?_take_of_lt (by omega)] at hx
  simp only [World.cell?, a2]
  simpa using hx
theorem barRound_eq (r : Int) : inSet lBarRound r = (r == 124 || r == 41) := by
 unfold inSet lBarRound
 simp only [List.any_cons, List.any_nil, Bool.or_false]
 rw [Bool.eq_iff_iff]
 simp only [beq_iff_eq, Bool.or_eq_true]
 constructor
 ·rintro (h | h) <;> simp at h <;> omega
 ·rintro (h | h) <;> simp <;> omega
theorem Tryz.infoPtr : (Tryz.prog.info? 33).map (fun i => (i.zero, i.size, i.bytes)) = some (some (.pointer none), 1, 8) := by kernel_rfl
end Go.Proofs.YtfollffpibmgcaaGreatDoor
