/- The reference's tree: number, plainRune. The reference's nodes in memory; letters; class. -/
import Derived.Test.YtfollffpibmgcaaGreatDoorP35
import Derived.Test.YtfollffpibmgcaaGreatDoorP04
set_option linter.unusedVariables false
set_option maxRecDepth 100000
namespace Go.Proofs.YtfollffpibmgcaaGreatDoor
open Go.RowKit
set_option maxRecDepth 100000
theorem digits_eq (r : Int) : inSet lDigits r = digitOf r := by
 rw [Bool.eq_iff_iff]
 simp [inSet, lDigits, digitOf]
 omega
theorem Tr_atL {w : World} {t : TG} {g : RG} {st : RS} {fold : Int} {vn : Value} {nl : List (List UInt8)} (h : TrAt w t g st fold vn nl) :
  Calls Tryz.prog 46 #[.pointer (some ⟨t.b, 0, none⟩)] w fun e w' => e = .returned (.int .i64 (seeOf g st)) ∧ TrAt w' t g st fold vn nl ∧ Kept (fun i => i = t.b) w w' :=
 (at_tr h).mono fun e w' ⟨he, hk⟩ => ⟨he, h.nil hk, hk.mono (fun _ hx => hx.elim)⟩
theorem Tr_behindL {w : World} {t : TG} {g : RG} {st : RS} {fold : Int} {vn : Value} {nl : List (List UInt8)} (h : TrAt w t g st fold vn nl) :
  Calls Tryz.prog 102 #[.pointer (some ⟨t.b, 0, none⟩)] w fun e w' => e = .returned (.int .i64 (seeOf g { st with next := st.next + 1 })) ∧ TrAt w' t g st fold vn nl ∧ Kept (fun i => i = t.b) w w' :=
 (behind_tr h).mono fun e w' ⟨he, hk⟩ => ⟨he, h.nil hk, hk.mono (fun _ hx => hx.elim)⟩
theorem TrAt.step {w : World} {t : TG} {g : RG} {st : RS} {fold : Int} {vn : Value} {nl : List (List UInt8)} (h : TrAt w t g st fold vn nl) (hlt : st.next < t.l.length) : TrAt (w.setCell ⟨t.b, 1, none⟩ (.int .i64 ((st.next : Int) + 1))) t g { st with next := st.next + 1 } fold vn nl := by
 have := h.setNext (st.next + 1) (by omega) (by omega)
 simpa using this
theorem plainA {w : World} {t : TG} {g : RG} {st : RS} {fold : Int} {vn : Value} {nl : List (List UInt8)} (h : TrAt w t g st fold vn nl) (hlt : st.next < t.l.length) (hne : seeOf g st ≠ 92) :
  Calls Tryz.prog 104 #[.pointer (some ⟨t.b, 0, none⟩)] w fun e w' => e = .returned (.int .i64 (seeOf g st)) ∧ TrAt w' t g { st with next := st.next + 1 } fold vn nl ∧ Kept (fun i => i = t.b) w w' := by
 have hb : (seeOf g st != 92) = true := by simp [hne]
 have hl := h.len
 go_enter Tryz.func104, Tryz.ntmps104
 go_wp2_with fail
 refine (Tr_atL h).mono ?_
 rintro e w1 ⟨rfl, h1, hk1⟩
 have c1 : w1.cell? ⟨t.b, 1, none⟩ = some (.int .i64 st.next) := h1.blk.cell 1
 have f1 : w1.frozen? ⟨t.b, 1, none⟩ = false := h1.blk.frozen 1
 go_wp2_with fail
 go_ret
 exact ⟨rfl, h1.step hlt, hk1.trans (own1 1 _)⟩
theorem plainB {w : World} {t : TG} {g : RG} {st : RS} {fold : Int} {vn : Value} {nl : List (List UInt8)} (h : TrAt w t g st fold vn nl) (hlt : st.next + 1 < t.l.length) (he92 : seeOf g st = 92) :
  Calls Tryz.prog 104 #[.pointer (some ⟨t.b, 0, none⟩)] w fun e w' => e = .returned (.int .i64 (escRune (seeOf g { st with next := st.next + 1 }))) ∧ TrAt w' t g { st with next := st.next + 2 } fold vn nl ∧ Kept (fun i => i = t.b) w w' := by
 have hb : (seeOf g st != 92) = false := by simp [he92]
 have hl := h.len
 clear he92
 go_enter Tryz.func104, Tryz.ntmps104
 go_wp2_with fail
 refine (Tr_atL h).mono ?_
 rintro e w1 ⟨rfl, h1, hk1⟩
 have c1 : w1.cell? ⟨t.b, 1, none⟩ = some (.int .i64 st.next) := h1.blk.cell 1
 have f1 : w1.frozen? ⟨t.b, 1, none⟩ = false := h1.blk.frozen 1
 go_wp2_with fail
 have h2 := h1.step (by omega)
 refine (Tr_atL h2).mono ?_
 rintro e w3 ⟨rfl, h3, hk3⟩
 have c3 : w3.cell? ⟨t.b, 1, none⟩ = some (.int .i64 ((st.next : Int) + 1)) := by have := h3.blk.cell 1; simpa using this
 have f3 : w3.frozen? ⟨t.b, 1, none⟩ = false := h3.blk.frozen 1
 have h4 := h3.setNext (st.next + 2) (by omega) (by simp)
 have h4' : TrAt (w3.setCell ⟨t.b, 1, none⟩ (.int .i64 ((st.next : Int) + 1 + 1))) t g { st with next := st.next + 2 } fold vn nl := by
  have e : ((st.next : Int) + 1 + 1) = ((st.next + 2 : Nat) : Int) := by omega
  rw [e]; exact h4
 clear c1 f1
 generalize hq : seeOf g { st with next := st.next + 1 } = q at *
 have HQ : Hid (seeOf g { st with next := st.next + 1 } = q) := hq
 clear hq
 go_wp2_with fail
 all_goals go_ret
 all_goals (have h4'' : TrAt (w3.setCell ⟨t.b, 1, none⟩ (.int .i64 ((st.next : Int) + 2))) t g { st with next := st.next + 2 } fold vn nl := (by rw [show ((st.next : Int) + 2) = ((st.next : Int) + 1 + 1) from by omega]; exact h4'))
 all_goals refine ⟨?_, h4'', ((hk1.trans (own1 1 _)).trans hk3).trans (own1 1 _)⟩
 all_goals (rw [HQ.out]; simp only [beq_iff_eq, beq_eq_false_iff_ne, ne_eq] at *; simp [escRune, *])
theorem number_tr {w : World} {t : TG} {g : RG} {st : RS} {fold : Int} {vn : Value} {nl : List (List UInt8)} (h : TrAt w t g st fold vn nl) (hf : (pNumber g st).1.flt.form = none) (hnd : inSet lDigits (seeOf g (pNumber g st).1) = false) :
  Calls Tryz.prog 74 #[.pointer (some ⟨t.b, 0, none⟩)] w fun e w' => e = .returned (.int .i64 (pNumber g st).2) ∧ TrAt w' t g (pNumber g st).1 fold vn nl ∧ Kept (fun i => i = t.b) w w' := by
 have hl := h.len
 have hlr := h.lenr
 have hd1 : inSet lDigits (seeOf g st) = true := by
  cases hc : inSet lDigits (seeOf g st)
  ·exfalso
   have e1 : pDigit g st = (refuseOf g st, 0) := by simp [pDigit, hc]
   have e2 : pNumber g st = (refuseOf g st, 0) := by
    unfold pNumber
    rw [if_neg (by rw [e1]; simp), e1]
   rw [e2] at hf
   exact refuse_form g st hf
  ·rfl
 have e1 : pDigit g st = ({ st with next := st.next + 1 }, seeOf g st - 48) := by simp [pDigit, hd1]
 have hlt := seeOf_lt hd1
 have hr1 := inSet_digits hd1
 by_cases htwo : 0 < seeOf g st - 48 ∧ inSet lDigits (seeOf g { st with next := st.next + 1 }) = true
 ·have e2 : pDigit g { st with next := st.next + 1 } = ({ st with next := st.next + 2 }, seeOf g { st with next := st.next + 1 } - 48) := by simp [pDigit, htwo.2]
  have e3 : pNumber g st = ({ st with next := st.next + 2 }, 10 * (seeOf g st - 48) + (seeOf g { st with next := st.next + 1 } - 48)) := by
   unfold pNumber
   rw [e1, if_pos htwo, e2]
  rw [e3] at hnd ⊢
  have hlt2 := seeOf_lt htwo.2
  simp only at hlt2
  have hr2 := inSet_digits htwo.2
  have t1 : digitOf (seeOf g st) = true := by rw [← digits_eq]; exact hd1
  have t2 : digitOf (seeOf g { st with next := st.next + 1 }) = true := by rw [← digits_eq]; exact htwo.2
  have t3 : digitOf (seeOf g { st with next := st.next + 2 }) = false := by rw [← digits_eq]; exact hnd
  clear e1 e2 e3 hnd hd1 htwo hf
  go_enter Tryz.func74, Tryz.ntmps74
  go_wp2_with fail
  refine wp_loop_rounds 3 ?_
  rw [rounds_succ]
  go_wp2_with fail
  refine (Tr_atL h).mono ?_
  rintro e w1 ⟨rfl, h1, hk1⟩
  go_wp2_with fail
  refine (digit_any _ _).mono ?_
  rintro e w1 ⟨rfl, rfl⟩
  rw [t1]
  go_wp2_with fail
  refine (Tr_atL h1).mono ?_
  rintro e w2 ⟨rfl, h2, hk2⟩
  have c1 : w2.cell? ⟨t.b, 1, none⟩ = some (.int .i64 st.next) := h2.blk.cell 1
  have f1 : w2.frozen? ⟨t.b, 1, none⟩ = false := h2.blk.frozen 1
  go_wp2_with fail
  rw [rounds_succ]
  have h3 := h2.step (by omega)
  clear c1 f1
  go_wp2_with fail
  refine (Tr_atL h3).mono ?_
  rintro e w4 ⟨rfl, h4, hk4⟩
  go_wp2_with fail
  refine (digit_any _ _).mono ?_
  rintro e w4 ⟨rfl, rfl⟩
  rw [t2]
  go_wp2_with fail
  refine (Tr_atL h4).mono ?_
  rintro e w5 ⟨rfl, h5, hk5⟩
  have c1 : w5.cell? ⟨t.b, 1, none⟩ = some (.int .i64 ((st.next : Int) + 1)) := by have := h5.blk.cell 1; simpa using this
  have f1 : w5.frozen? ⟨t.b, 1, none⟩ = false := h5.blk.frozen 1
  go_wp2_with fail
  rw [rounds_succ]
  have h6 : TrAt (w5.setCell ⟨t.b, 1, none⟩ (.int .i64 ((st.next : Int) + 2))) t g { st with next := st.next + 2 } fold vn nl := by
   have := h5.setNext (st.next + 2) (by omega) (by simp)
   simpa using this
  clear c1 f1
  go_wp2_with fail
  refine (Tr_atL h6).mono ?_
  rintro e w7 ⟨rfl, h7, hk7⟩
  go_wp2_with fail
  refine (digit_any _ _).mono ?_
  rintro e w7 ⟨rfl, rfl⟩
  rw [t3]
  go_wp2_with fail
  go_ret
  refine ⟨?_, h7, (((((hk1.trans hk2).trans (own1 1 _)).trans hk4).trans hk5).trans (own1 1 _)).trans hk7⟩
  exact congrArg (fun x => Ending.returned (Value.int .i64 x)) (by omega)
 ·have e3 : pNumber g st = ({ st with next := st.next + 1 }, seeOf g st - 48) := by
   unfold pNumber
   rw [e1, if_neg htwo]
  rw [e3] at hnd ⊢
  have t1 : digitOf (seeOf g st) = true := by rw [← digits_eq]; exact hd1
  have t2 : digitOf (seeOf g { st with next := st.next + 1 }) = false := by rw [← digits_eq]; exact hnd
  clear e1 e3 hnd hd1 htwo hf
  go_enter Tryz.func74, Tryz.ntmps74
  go_wp2_with fail
  refine wp_loop_rounds 2 ?_
  rw [rounds_succ]
  go_wp2_with fail
  refine (Tr_atL h).mono ?_
  rintro e w1 ⟨rfl, h1, hk1⟩
  go_wp2_with fail
  refine (digit_any _ _).mono ?_
  rintro e w1 ⟨rfl, rfl⟩
  rw [t1]
  go_wp2_with fail
  refine (Tr_atL h1).mono ?_
  rintro e w2 ⟨rfl, h2, hk2⟩
  have c1 : w2.cell? ⟨t.b, 1, none⟩ = some (.int .i64 st.next) := h2.blk.cell 1
  have f1 : w2.frozen? ⟨t.b, 1, none⟩ = false := h2.blk.frozen 1
  go_wp2_with fail
  rw [rounds_succ]
  have h3 := h2.step (by omega)
  clear c1 f1
  go_wp2_with fail
  refine (Tr_atL h3).mono ?_
  rintro e w4 ⟨rfl, h4, hk4⟩
  go_wp2_with fail
  refine (digit_any _ _).mono ?_
  rintro e w4 ⟨rfl, rfl⟩
  rw [t2]
  go_wp2_with fail
  go_ret
  refine ⟨?_, h4, ((hk1.trans hk2).trans (own1 1 _)).trans hk4⟩
  exact congrArg (fun x => Ending.returned (Value.int .i64 x)) (by omega)
def nodeCells (op : ByteArray) (vs : Value) (nt fd : Bool) (kids : Value) (grp least most : Int) (lz : Bool) : Array Value :=
 #[.string op, vs, .bool nt, .bool fd, kids, .int .i64 grp, .int .i64 least, .int .i64 most, .bool lz]
def OpOf (op : ByteArray) (k : Int) : Prop :=
 (k = 2 ∧ op = sSeq) ∨ (k = 3 ∧ op = sAlt) ∨ (k = 4 ∧ op = sTimes) ∨ ((k = 0 ∨ k = 1) ∧ (op.toList == [115, 101, 113]) = false ∧ (op.toList == [97, 108, 116]) = false ∧ (op.toList == [116, 105, 109, 101, 115]) = false)
structure SpOf (w : World) (U : Nat → Prop) (ao : Option Addr) (bs : Nat) (sp : List (Int × Int)) : Prop where
 isS : sp ≠ [] → ao = some ⟨bs, 0, none⟩ ∧ U bs
 cell : ∀ i, (h : i < sp.length) → w.cell? ⟨bs, i * 2, none⟩ = some (.int .i64 (sp[i]).1) ∧ w.cell? ⟨bs, i * 2 + 1, none⟩ = some (.int .i64 (sp[i]).2)
 few : sp.length ≤ 2000
inductive NdAt (w : World) (U : Nat → Prop) : Nat → PT → RT → Prop where
 | mk (b : Nat) (op : ByteArray) (sp : List (Int × Int)) (aos : Option Addr) (caps bs : Nat) (nt fd lz : Bool) (grp least most k l h : Int) (ao : Option Addr) (cap bk : Nat) (ts : List PT) (rs : List RT) (P : Nat → Nat)
   (hblk : Blk w b (nodeCells op (.slice aos sp.length caps) nt fd (.slice ao ts.length cap) grp least most lz) 126) (hlo : U b) (hop : OpOf op k) (hlm : k = 4 → least = l ∧ most = h)
   (hb : ts ≠ [] → ao = some ⟨bk, 0, none⟩ ∧ U bk)
   (hc : ∀ i, i < ts.length → w.cell? ⟨bk, i, none⟩ = some (.pointer (some ⟨P i, 0, none⟩)))
   (hl : rs.length = ts.length)
   (hk : ∀ i, (h : i < ts.length) → (h' : i < rs.length) → NdAt w U (P i) ts[i] rs[i])
   (hr : (-1 ≤ l ∧ l ≤ 99) ∧ (-1 ≤ h ∧ h ≤ 99) ∧ ts.length ≤ 400 ∧ (k = 3 → ts ≠ []))
   (hsp : SpOf w U aos bs sp) :
   NdAt w U b (.node k ts l h) (.node op sp nt fd rs grp least most lz)
theorem cell_lt {w : World} {p : Addr} {v : Value} (h : w.cell? p = some v) : p.block < w.heap.size := by
 apply Decidable.byContradiction
 intro hn
 have e : w.heap[p.block]? = none := Array.getElem?_eq_none (by omega)
 simp [World.cell?, e] at h
theorem SpOf.nil (w : World) (U : Nat → Prop) : SpOf w U none 0 [] := ⟨fun h => absurd rfl h, fun i h => by simp at h, by simp⟩
theorem SpOf.kept {w w' : World} {U : Nat → Prop} {ao : Option Addr} {bs : Nat} {sp : List (Int × Int)} {S : Nat → Prop} (h : SpOf w U ao bs sp) (k : Kept S w w') (hs : ∀ i, U i → ¬ S i) : SpOf w' U ao bs sp where
 isS := h.isS
 few := h.few
 cell i hi := by
  obtain ⟨_, b1⟩ := h.isS (by intro e; subst e; simp at hi)
  obtain ⟨c1, c2⟩ := h.cell i hi
  rw [k.cell (p := ⟨bs, i * 2, none⟩) (cell_lt c1) (hs bs b1), k.cell (p := ⟨bs, i * 2 + 1, none⟩) (cell_lt c2) (hs bs b1)]
  exact ⟨c1, c2⟩
theorem SpOf.widen {w : World} {U U' : Nat → Prop} {ao : Option Addr} {bs : Nat} {sp : List (Int × Int)} (h : SpOf w U ao bs sp) (h1 : ∀ i, U i → i < w.heap.size → U' i) : SpOf w U' ao bs sp where
 isS hne := by
  obtain ⟨a, b1⟩ := h.isS hne
  exact ⟨a, h1 _ b1 (cell_lt (h.cell 0 (by cases sp with | nil => exact absurd rfl hne | cons => simp)).1)⟩
 cell := h.cell
 few := h.few
theorem NdAt.kept {w w' : World} {U : Nat → Prop} {b : Nat} {T : PT} {R : RT} {S : Nat → Prop} (h : NdAt w U b T R) (k : Kept S w w') (hs : ∀ i, U i → ¬ S i) : NdAt w' U b T R := by
 induction h with
 | mk b op sp aos caps bs nt fd lz grp least most kk l hh ao cap bk ts rs P hblk hlo hop hlm hb hc hl hk hr hsp ih =>
  refine NdAt.mk b op sp aos caps bs nt fd lz grp least most kk l hh ao cap bk ts rs P (hblk.kept k (hs b hlo)) hlo hop hlm hb (fun i hi' => ?_) hl (fun i hi' hi2 => ih i hi' hi2) hr (hsp.kept k hs)
  obtain ⟨_, b1⟩ := hb (by intro e; subst e; simp at hi')
  rw [k.cell (p := ⟨bk, i, none⟩) (cell_lt (hc i hi')) (hs bk b1)]
  exact hc i hi'
theorem NdAt.widen {w : World} {U U' : Nat → Prop} {b : Nat} {T : PT} {R : RT} (h : NdAt w U b T R) (h1 : ∀ i, U i → i < w.heap.size → U' i) : NdAt w U' b T R := by
 induction h with
 | mk b op sp aos caps bs nt fd lz grp least most kk l hh ao cap bk ts rs P hblk hlo hop hlm hb hc hl hk hr hsp ih =>
  refine NdAt.mk b op sp aos caps bs nt fd lz grp least most kk l hh ao cap bk ts rs P hblk (h1 _ hlo hblk.lt) hop hlm (fun hne => ?_) hc hl (fun i hi' hi2 => ih i hi' hi2) hr (hsp.widen h1)
  obtain ⟨a, b1⟩ := hb hne
  exact ⟨a, h1 _ b1 (cell_lt (hc 0 (by cases ts with | nil => exact absurd rfl hne | cons => simp)))⟩
theorem NdAt.single {w : World} {U : Nat → Prop} {b : Nat} {op : ByteArray} {sp : List (Int × Int)} {aos : Option Addr} {caps bs : Nat} {nt fd : Bool} (hblk : Blk w b (nodeCells op (.slice aos sp.length caps) nt fd (.slice none 0 0) 0 0 0 false) 126) (hlo : U b) (hop : OpOf op 0) (hsp : SpOf w U aos bs sp) : NdAt w U b single (rLeaf op sp nt fd) :=
 NdAt.mk b op sp aos caps bs nt fd false 0 0 0 0 0 0 none 0 0 [] [] (fun _ => 0) hblk hlo hop (by omega) (fun h => absurd rfl h) (fun i h => by simp at h) rfl (fun i h => by simp at h) (by simp) hsp
def Fr (lo hi : Nat) (vn : Value) : Nat → Prop := fun i => lo ≤ i ∧ i < hi ∧ vn.ownBlock ≠ some i
def NdPost (w : World) (t : TG) (g : RG) (fold : Int) (vn : Value) (x : RS × PT) (R : RT) (e : Ending) (w' : World) : Prop :=
 ∃ b vn' nl', e = .returned (.pointer (some ⟨b, 0, none⟩)) ∧ TrAt w' t g x.1 fold vn' nl' ∧ NdAt w' (Fr w.heap.size w'.heap.size vn') b x.2 R ∧ Kept (fun i => i = t.b ∨ vn.ownBlock = some i) w w' ∧ ∀ i, vn'.ownBlock = some i → vn.ownBlock = some i ∨ w.heap.size ≤ i
theorem TrAt.new {w0 w w' : World} {t : TG} {g : RG} {st st0 : RS} {fold fold0 : Int} {vn vn0 : Value} {nl nl0 : List (List UInt8)} (h : TrAt w t g st fold vn nl) (h0 : TrAt w0 t g st0 fold0 vn0 nl0) {S : Nat → Prop} (k : Kept S w w') (hs : ∀ i, S i → w0.heap.size ≤ i) (hv : ∀ b, vn.ownBlock = some b → ¬ S b) : TrAt w' t g st fold vn nl :=
 h.kept k (fun i hi hx => by
  rcases hi with rfl | ⟨hl, rfl⟩ | hb
  ·have := h0.blt; have := hs _ hx; omega
  ·have := (h0.gl.isSome hl).2.2; have := hs _ hx; omega
  ·exact hv i hb hx)
theorem add_at (b j : Nat) : Addr.add ⟨b, 0, none⟩ j = ⟨b, j, none⟩ := by
 unfold Addr.add
 split
 ·rename_i h; simp
 ·simp
theorem new_news (w : World) (cs : Array Value) (t : TypeId) (j : Nat) (u : Value) (h : cs.toList[j]? = some u) : (w.alloc (.cells cs t)).cell? (Addr.add ⟨w.heap.size, 0, none⟩ j) = some u := by
 rw [add_at, (Blk.new w cs t).cell j]
 simpa using h
def flat2 : List (Int × Int) → List Value
 | [] => []
 | p :: l => .int .i64 p.1 :: .int .i64 p.2 :: flat2 l
theorem flat2_length (l : List (Int × Int)) : (flat2 l).length = l.length * 2 := by
 induction l with
 | nil => rfl
 | cons p l ih => simp only [flat2, List.length_cons, ih]; omega
theorem flat2_append (l m : List (Int × Int)) : flat2 (l ++ m) = flat2 l ++ flat2 m := by
 induction l with
 | nil => rfl
 | cons p l ih => simp only [flat2, List.cons_append, ih]
theorem flat2_get : ∀ (l : List (Int × Int)) (i : Nat) (h : i < l.length), (flat2 l)[i * 2]? = some (.int .i64 (l[i]).1) ∧ (flat2 l)[i * 2 + 1]? = some (.int .i64 (l[i]).2)
 | [], i, h => by simp at h
 | p :: l, 0, _ => by simp [flat2]
 | p :: l, i + 1, h => by
  have := flat2_get l i (by simpa using h)
  rw [show (i + 1) * 2 = i * 2 + 1 + 1 from by omega]
  simpa [flat2] using this
theorem flat2_one (l : List (Int × Int)) : ∀ u ∈ flat2 l, u.oneCell' = true := by
 induction l with
 | nil => intro u hu; simp [flat2] at hu
 | cons p l ih =>
  intro u hu
  simp only [flat2, List.mem_cons] at hu
  rcases hu with rfl | rfl | hu
  ·rfl
  ·rfl
  ·exact ih u hu
theorem letters_any (r : Int) (w : World) :
  Calls Tryz.prog 103 #[.int .i64 r] w fun e w' => e = .returned (.slice (some ⟨w.heap.size, 0, none⟩) (letterSpans r).length (letterSpans r).length) ∧ (letterSpans r).length ≤ 4 ∧ Blk w' w.heap.size (flat2 (letterSpans r)).toArray 177 ∧ Kept Nil w w' := by
 have hp : ∀ a b : Int, (r == a) = true → letterSpans a = letterSpans b → letterSpans r = letterSpans b := fun a b h e => by rw [beq_iff_eq.1 h, e]
 unfold letterSpans
 go_enter Tryz.func103, Tryz.ntmps103
 go_wp2_with fail
 all_goals go_ret
 all_goals simp_all [flat2]
 all_goals exact ⟨Blk.new _ _ _, (Kept.refl _ _).alloc _⟩
theorem pOne_form {g : RG} {esc : Bool} {st : RS} (h : (pOne g esc st).1.flt.form = none) : st.flt.form = none := by
 unfold pOne at h
 cases esc
 ·exact (needOtherSt_form h).2.2.1
 ·exact (needSt_form h).2.1
theorem pOne'_form {g : RG} {st : RS} (h : (pOne' g st).1.flt.form = none) : st.flt.form = none := by
 have := pOne_form (g := g) (esc := inSet lBack (seeOf g st)) (st := takeOf g lBack st) h
 rw [takeOf_form] at this
 exact this
theorem pUpto_form {g : RG} {p : Int} {x : RS × Int} (h : (pUpto g p x).flt.form = none) : x.1.flt.form = none := by
 unfold pUpto at h
 split at h
 ·split at h
  ·rw [note_form (by omega)] at h; exact pOne'_form (st := { x.1 with next := x.1.next + 1 }) h
  ·exact pOne'_form (st := { x.1 with next := x.1.next + 1 }) h
 ·exact h
theorem pItem_form {g : RG} {st : RS} (h : (pItem g st).flt.form = none) : st.flt.form = none := by
 unfold pItem at h
 split at h
 ·exact h
 ·exact pOne'_form (pUpto_form h)
theorem pItems_form {g : RG} : ∀ {m : Nat} {st : RS}, (pItems g m st).flt.form = none → st.flt.form = none
 | 0, _, h => h
 | m + 1, st, h => by
  unfold pItems at h
  split at h
  ·exact h
  ·exact pItem_form (pItems_form h)
theorem pOne'_cases {g : RG} {st : RS} (h : (pOne' g st).1.flt.form = none) :
  (seeOf g st ≠ 92 ∧ seeOf g st ≠ -1 ∧ inSet lNotOne (seeOf g st) = false ∧ pOne' g st = ({ st with next := st.next + 1 }, seeOf g st)) ∨
  (seeOf g st = 92 ∧ inSet lMarks (seeOf g { st with next := st.next + 1 }) = true ∧ pOne' g st = ({ st with next := st.next + 2 }, escRune (seeOf g { st with next := st.next + 1 }))) := by
 have hb : inSet lBack (seeOf g st) = (seeOf g st == 92) := by
  unfold inSet lBack
  simp only [List.any_cons, List.any_nil, Bool.or_false]
  rw [Bool.eq_iff_iff]
  simp only [beq_iff_eq]
  exact ⟨fun h => h.symm, fun h => h.symm⟩
 unfold pOne' at h ⊢
 rw [hb] at h ⊢
 by_cases he : seeOf g st = 92
 ·right
  have e1 : takeOf g lBack st = { st with next := st.next + 1 } := by unfold takeOf; rw [hb, if_pos (by simp [he])]
  have e2 : (seeOf g st == 92) = true := by simp [he]
  rw [e1, e2] at h ⊢
  unfold pOne at h ⊢
  simp only [if_true] at h ⊢
  obtain ⟨h1, h2, h3⟩ := needSt_form h
  exact ⟨he, h1, by rw [h3]⟩
 ·left
  have e1 : takeOf g lBack st = st := by unfold takeOf; rw [hb, if_neg (by simp [he])]
  have e2 : (seeOf g st == 92) = false := by simp [he]
  rw [e1, e2] at h ⊢
  unfold pOne at h ⊢
  simp only [Bool.false_eq_true, if_false] at h ⊢
  obtain ⟨h1, h2, h3, h4⟩ := needOtherSt_form h
  exact ⟨he, h1, h2, by rw [h4]⟩
theorem plain_one {w : World} {t : TG} {g : RG} {st : RS} {fold : Int} {vn : Value} {nl : List (List UInt8)} (h : TrAt w t g st fold vn nl) (hf : (pOne' g st).1.flt.form = none) :
  Calls Tryz.prog 104 #[.pointer (some ⟨t.b, 0, none⟩)] w fun e w' => e = .returned (.int .i64 (pOne' g st).2) ∧ TrAt w' t g (pOne' g st).1 fold vn nl ∧ Kept (fun i => i = t.b) w w' := by
 have hlr := h.lenr
 rcases pOne'_cases hf with ⟨h1, h2, h3, h4⟩ | ⟨h1, h2, h4⟩
 ·rw [h4]
  exact plainA h (by have := lt_of_see h2; omega) h1
 ·rw [h4]
  have := seeOf_lt h2
  exact plainB h (by simp only at this; omega) h1
theorem Tryz.infoSpan : (Tryz.prog.info? 177).map (fun i => (i.zero, i.size, i.bytes)) = some (some (.agg #[.int .i64 0, .int .i64 0]), 2, 16) := by kernel_rfl
theorem inOne (b : UInt8) (r : Int) : inSet [b] r = (r == (b.toNat : Int)) := by
 unfold inSet
 simp only [List.any_cons, List.any_nil, Bool.or_false]
 rw [Bool.eq_iff_iff]
 simp only [beq_iff_eq]
 exact ⟨fun h => h.symm, fun h => h.symm⟩
theorem TrAt.setOrder {w : World} {t : TG} {g : RG} {st : RS} {fold : Int} {vn : Value} {nl : List (List UInt8)} (h : TrAt w t g st fold vn nl) (p : Int) (hp : 0 ≤ p) (hn : st.flt.cls = none) : TrAt (w.setCell ⟨t.b, 5, none⟩ (.int .i64 p)) t g (st.note 5 p) fold vn nl := by
 have e : st.note 5 p = { st with flt := { st.flt with cls := some p } } := by simp [RS.note, Flt.note, Flt.get, hn, Flt.put]
 have k : Kept (fun i => i = t.b) w (w.setCell ⟨t.b, 5, none⟩ (.int .i64 p)) := own1 5 _
 rw [e]
 exact { h with
  blk := h.blk.setCell 5 _
  gl := h.gl.kept k (fun hl => h.ne hl)
  names := ownsRow_kept h.names k (fun b hb he => by have := (ownsRow_block h.names hb).1; omega)
  nrel := h.nrel
  groups := h.groups
  fold0 := h.fold0
  fok := ⟨h.fok.1, fun q hq => by simp at hq; omega, h.fok.2.2⟩ }
theorem TrAt.keepOrder {w : World} {t : TG} {g : RG} {st : RS} {fold : Int} {vn : Value} {nl : List (List UInt8)} (h : TrAt w t g st fold vn nl) (p : Int) (hn : st.flt.cls ≠ none) : TrAt w t g (st.note 5 p) fold vn nl := by
 have e : st.note 5 p = st := by
  cases hc : st.flt.cls with
  | none => exact absurd hc hn
  | some q => simp [RS.note, Flt.note, Flt.get, hc]
 rw [e]; exact h
structure SpAt (w : World) (nb : Nat) (vs : Value) (nt fd : Bool) (sp : List (Int × Int)) : Prop where
 blk : Blk w nb (nodeCells sRune vs nt fd (.slice none 0 0) 0 0 0 false) 126
 own : w.ownsRow (nb + 1) 177 2 vs sp.length (flat2 sp)
theorem SpAt.kept {w w' : World} {nb : Nat} {vs : Value} {nt fd : Bool} {sp : List (Int × Int)} {S : Nat → Prop} (h : SpAt w nb vs nt fd sp) (kk : Kept S w w') (hs : ∀ i, S i → i < nb) : SpAt w' nb vs nt fd sp :=
 ⟨h.blk.kept kk (fun hx => by have := hs _ hx; omega), ownsRow_kept h.own kk (fun b hb he => by have := (ownsRow_block h.own hb).1; have := hs _ he; omega)⟩
theorem SpAt.push {w w1 w' : World} {nb : Nat} {vs v' : Value} {nt fd : Bool} {sp new : List (Int × Int)} (h : SpAt w nb vs nt fd sp) (hv : ∀ b, vs.ownBlock = some b → nb + 1 ≤ b) (k1 : Kept Nil w w1) (hown : w'.ownsRow (nb + 1) 177 2 v' (sp.length + new.length) (flat2 sp ++ flat2 new)) (hg : w1.grownBy w' vs.ownBlock) :
  SpAt (w'.setCell ⟨nb, 1, none⟩ v') nb v' nt fd (sp ++ new) := by
 have kk : Kept (fun i => vs.ownBlock = some i) w w' := (k1.mono (fun _ hx => hx.elim)).grown hg (fun j hj => Or.inl hj)
 have k2 : Kept (fun i => i = nb) w' (w'.setCell ⟨nb, 1, none⟩ v') := (Kept.refl (fun i => i = nb) w').setCell (p := ⟨nb, 1, none⟩) (Or.inl rfl) v'
 refine ⟨(h.blk.kept kk (fun hx => by have := hv _ hx; omega)).setCell 1 v', ?_⟩
 rw [flat2_append, List.length_append]
 exact ownsRow_kept hown k2 (fun b hb he => by have := (ownsRow_block hown hb).1; omega)
theorem SpAt.node {w : World} {nb : Nat} {vs : Value} {nt fd : Bool} {sp : List (Int × Int)} {U : Nat → Prop} (h : SpAt w nb vs nt fd sp) (hU : ∀ i, nb ≤ i → i < w.heap.size → U i) (hf : sp.length ≤ 2000) : NdAt w U nb single (rLeaf sRune sp nt fd) := by
 have hb := h.blk
 rcases h.own.2 with ⟨rfl, h0⟩ | ⟨g, cap, cur, rfl, a1, a2, a3, a4, a5, a6⟩
 ·obtain rfl : sp = [] := List.length_eq_zero_iff.1 h0
  exact NdAt.single (sp := []) hb (hU _ (Nat.le_refl _) hb.lt) (Or.inr (Or.inr (Or.inr ⟨Or.inl rfl, by rw [Lib.toList_data]; decide, by rw [Lib.toList_data]; decide, by rw [Lib.toList_data]; decide⟩))) (SpOf.nil _ _)
 ·have hg : g < w.heap.size := (Array.getElem?_eq_some_iff.1 a2).1
  have hc : ∀ j u, (flat2 sp)[j]? = some u → w.cell? ⟨g, j, none⟩ = some u := by
   intro j u hj
   have hlt : j < sp.length * 2 := by
    have := (List.getElem?_eq_some_iff.1 hj).1
    rw [flat2_length] at this; exact this
   rw [← a6, List.getElem?_take_of_lt hlt] at hj
   simp only [World.cell?, a2]
   simpa using hj
  refine NdAt.single (bs := g) hb (hU _ (Nat.le_refl _) hb.lt) (Or.inr (Or.inr (Or.inr ⟨Or.inl rfl, by rw [Lib.toList_data]; decide, by rw [Lib.toList_data]; decide, by rw [Lib.toList_data]; decide⟩))) ⟨fun _ => ⟨rfl, hU _ (by omega) hg⟩, fun i hi => ?_, hf⟩
  obtain ⟨q1, q2⟩ := flat2_get sp i hi
  exact ⟨hc _ _ q1, hc _ _ q2⟩
theorem SpOf.ofBlk {w : World} {U : Nat → Prop} {b : Nat} {sp : List (Int × Int)} (hB : Blk w b (flat2 sp).toArray 177) (hU : U b) (hf : sp.length ≤ 2000) : SpOf w U (some ⟨b, 0, none⟩) b sp where
 isS _ := ⟨rfl, hU⟩
 cell i hi := by
  obtain ⟨q1, q2⟩ := flat2_get sp i hi
  rw [hB.cell, hB.cell]
  exact ⟨by simpa using q1, by simpa using q2⟩
 few := hf
theorem TrAt.names_b {w : World} {t : TG} {g : RG} {st : RS} {fold : Int} {vn : Value} {nl : List (List UInt8)} (h : TrAt w t g st fold vn nl) {b : Nat} (hb : vn.ownBlock = some b) : t.b < b ∧ b < w.heap.size := by
 have := ownsRow_block h.names hb; omega
theorem lSquare_eq (r : Int) : inSet lSquare r = (r == 93) := inOne 93 r
theorem lDash_eq (r : Int) : inSet lDash r = (r == 45) := inOne 45 r
theorem lBack_eq (r : Int) : inSet lBack r = (r == 92) := inOne 92 r
theorem lCaret_eq (r : Int) : inSet lCaret r = (r == 94) := inOne 94 r
theorem pItem_head {g : RG} {st : RS} (h : (pItem g st).flt.form = none) : seeOf g st ≠ -1 ∧ inSet lSquare (seeOf g st) = false := by
 unfold pItem at h
 split at h
 ·rename_i hc
  have := hc.1
  rw [lBack_eq] at this
  have e := beq_iff_eq.1 this
  rw [e]; exact ⟨by omega, by decide⟩
 ·rcases pOne'_cases (pUpto_form h) with ⟨h1, h2, h3, _⟩ | ⟨h1, _, _⟩
  ·refine ⟨h2, ?_⟩
   rw [lSquare_eq]
   cases hx : (seeOf g st == 93)
   ·rfl
   ·have e := beq_iff_eq.1 hx
    rw [e] at h3
    revert h3; decide
  ·rw [h1]; exact ⟨by omega, by decide⟩
theorem pItems_succ {g : RG} {m : Nat} {st : RS} (h1 : seeOf g st ≠ -1) (h2 : inSet lSquare (seeOf g st) = false) : pItems g (m + 1) st = pItems g m (pItem g st) := by
 rw [show pItems g (m + 1) st = if seeOf g st = -1 ∨ inSet lSquare (seeOf g st) = true then st else pItems g m (pItem g st) from rfl, if_neg (by simp [h1, h2])]
theorem orNeg_none {o : Option Int} (h : o = none) : orNeg o = -1 := by rw [h]; rfl
theorem rItems_end (g : RG) (m : Nat) (st : RS) (acc : List (Int × Int)) (h : seeOf g st = -1 ∨ inSet lSquare (seeOf g st) = true) : rItems g m st acc = acc := by
 cases m with
 | zero => rfl
 | succ m => unfold rItems; rw [if_pos h]
theorem rItems_succ {g : RG} {m : Nat} {st : RS} {acc : List (Int × Int)} (h1 : seeOf g st ≠ -1) (h2 : inSet lSquare (seeOf g st) = false) : rItems g (m + 1) st acc = rItems g m (pItem g st) (acc ++ rItem g st) := by
 rw [show rItems g (m + 1) st acc = if seeOf g st = -1 ∨ inSet lSquare (seeOf g st) = true then acc else rItems g m (pItem g st) (acc ++ rItem g st) from rfl, if_neg (by simp [h1, h2])]
theorem rItem_one {g : RG} {st : RS} (h : ¬ (inSet lBack (seeOf g st) = true ∧ inSet lSets (seeOf g { st with next := st.next + 1 }) = true)) (hd : (seeOf g (pOne' g st).1 == 45) = false) : rItem g st = [((pOne' g st).2, (pOne' g st).2)] := by
 unfold rItem
 rw [if_neg h, if_neg (by rw [lDash_eq, hd]; simp)]
theorem rItem_upto {g : RG} {st : RS} {y : RS × Int} (h : ¬ (inSet lBack (seeOf g st) = true ∧ inSet lSets (seeOf g { st with next := st.next + 1 }) = true)) (hd : inSet lDash (seeOf g (pOne' g st).1) = true) (hy : pOne' g { (pOne' g st).1 with next := (pOne' g st).1.next + 1 } = y) : rItem g st = [((pOne' g st).2, y.2)] := by
 unfold rItem
 rw [if_neg h, if_pos hd, hy]
theorem rItem_set {g : RG} {st : RS} (h : inSet lBack (seeOf g st) = true) (h2 : inSet lSets (seeOf g { st with next := st.next + 1 }) = true) : rItem g st = letterSpans (seeOf g { st with next := st.next + 1 }) := by
 unfold rItem
 rw [if_pos ⟨h, h2⟩]
end Go.Proofs.YtfollffpibmgcaaGreatDoor
