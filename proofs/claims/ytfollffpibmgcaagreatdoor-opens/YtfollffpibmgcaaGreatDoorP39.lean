/- The reference's tree: times with numbers in braces. -/
import Derived.Test.YtfollffpibmgcaaGreatDoorP38
namespace Go.Proofs.YtfollffpibmgcaaGreatDoor
open Go.RowKit
set_option linter.unusedVariables false
set_option maxRecDepth 100000
theorem TrAt.setRep {w : World} {t : TG} {g : RG} {st : RS} {fold : Int} {vn : Value} {nl : List (List UInt8)} (h : TrAt w t g st fold vn nl) (p : Int) (hp : 0 ≤ p) (hn : st.flt.rep = none) : TrAt (w.setCell ⟨t.b, 4, none⟩ (.int .i64 p)) t g (st.note 4 p) fold vn nl := by
 have e : st.note 4 p = { st with flt := { st.flt with rep := some p } } := by simp [RS.note, Flt.note, Flt.get, hn, Flt.put]
 have k : Kept (fun i => i = t.b) w (w.setCell ⟨t.b, 4, none⟩ (.int .i64 p)) := own1 4 _
 rw [e]
 exact { h with
  blk := h.blk.setCell 4 _
  gl := h.gl.kept k (fun hl => h.ne hl)
  names := ownsRow_kept h.names k (fun b hb he => by have := (ownsRow_block h.names hb).1; omega)
  nrel := h.nrel
  groups := h.groups
  fold0 := h.fold0
  fok := ⟨fun q hq => by simp at hq; omega, h.fok.2.1, h.fok.2.2⟩ }
theorem TrAt.keepRep {w : World} {t : TG} {g : RG} {st : RS} {fold : Int} {vn : Value} {nl : List (List UInt8)} (h : TrAt w t g st fold vn nl) (p : Int) (hn : st.flt.rep ≠ none) : TrAt w t g (st.note 4 p) fold vn nl := by
 have e : st.note 4 p = st := by
  cases hc : st.flt.rep with
  | none => exact absurd hc hn
  | some q => simp [RS.note, Flt.note, Flt.get, hc]
 rw [e]; exact h
def repNote (st : RS) (L M p : Int) : RS := if L > 20 ∨ M > 20 ∨ (M ≠ -1 ∧ M < L) then st.note 4 p else st
theorem repNote_next (st : RS) (L M p : Int) : (repNote st L M p).next = st.next := by unfold repNote; split <;> rfl
theorem repNote_pos {st : RS} {L M : Int} (p : Int) (h : L > 20 ∨ M > 20 ∨ (M ≠ -1 ∧ M < L)) : repNote st L M p = st.note 4 p := by unfold repNote; rw [if_pos h]
theorem repNote_neg {st : RS} {L M : Int} (p : Int) (h : ¬ (L > 20 ∨ M > 20 ∨ (M ≠ -1 ∧ M < L))) : repNote st L M p = st := by unfold repNote; rw [if_neg h]
theorem Blk.drewN {w : World} {b : Nat} {cs : Array Value} {t : TypeId} (h : Blk w b cs t) (m : Nat) : Blk (w.drewN m) b cs t := h
theorem comma_eq (r : Int) : inSet lComma r = (r == 44) := inOne' 44 r
theorem brace_eq (r : Int) : inSet lBrace r = (r == 125) := inOne' 125 r
set_option maxRecDepth 100000 in
set_option maxHeartbeats 4000000 in
theorem times_one {w : World} {t : TG} {g : RG} {st st1 : RS} {A : PT} {RA : RT} {fold : Int} {vn : Value} {nl : List (List UInt8)} (hT : TrAt w t g st fold vn nl) (hAt : Calls Tryz.prog 73 #[.pointer (some ⟨t.b, 0, none⟩)] w (NdPost w t g fold vn (st1, A) RA))
  (HS : (seeOf g st1 == 123) = true) (n1 : (seeOf g st1 == 42) = false) (n2 : (seeOf g st1 == 43) = false) (n3 : (seeOf g st1 == 63) = false)
  (hf1 : (pNumber g { st1 with next := st1.next + 1 }).1.flt.form = none) (hnd : inSet lDigits (seeOf g (pNumber g { st1 with next := st1.next + 1 }).1) = false) (hbr : seeOf g (pNumber g { st1 with next := st1.next + 1 }).1 = 125) :
  Calls Tryz.prog 47 #[.pointer (some ⟨t.b, 0, none⟩)] w (NdPost w t g fold vn (takeOf g lQuery (repNote { (pNumber g { st1 with next := st1.next + 1 }).1 with next := (pNumber g { st1 with next := st1.next + 1 }).1.next + 1 } (pNumber g { st1 with next := st1.next + 1 }).2 (pNumber g { st1 with next := st1.next + 1 }).2 (placeOf g st1)), .node 4 [A] (pNumber g { st1 with next := st1.next + 1 }).2 (pNumber g { st1 with next := st1.next + 1 }).2) (rTimes RA (pNumber g { st1 with next := st1.next + 1 }).2 (pNumber g { st1 with next := st1.next + 1 }).2 (inSet lQuery (seeOf g (repNote { (pNumber g { st1 with next := st1.next + 1 }).1 with next := (pNumber g { st1 with next := st1.next + 1 }).1.next + 1 } (pNumber g { st1 with next := st1.next + 1 }).2 (pNumber g { st1 with next := st1.next + 1 }).2 (placeOf g st1)))))) := by
 have htb := hT.blt
 have hlt1 : st1.next < g.rs.length := lt_of_see (by intro e; rw [e] at HS; exact absurd HS (by decide))
 obtain ⟨n, hn⟩ : ∃ n, n = pNumber g { st1 with next := st1.next + 1 } := ⟨_, rfl⟩
 have hr0 : 0 ≤ n.2 ∧ n.2 ≤ 99 := by rw [hn]; exact pNumber_range g _
 have hnx := pNumber_next g { st1 with next := st1.next + 1 } (by simp; omega)
 rw [← hn] at hnx
 simp only at hnx
 rw [← hn] at hf1 hnd hbr ⊢
 have HN : Hid (pNumber g { st1 with next := st1.next + 1 } = n) := hn.symm
 clear hn
 have nc : (seeOf g n.1 == 44) = false := by rw [hbr]; rfl
 have hxl : n.1.next < g.rs.length := lt_of_see (by rw [hbr]; omega)
 go_enter Tryz.func47, Tryz.ntmps47
 go_wp2_with fail
 refine hAt.mono ?_
 rintro e w1 ⟨b1, vn1, nl1, rfl, h1, q2, q3, q4⟩
 have hl := h1.len
 have hlr := h1.lenr
 have hs1 := q3.size
 have ka : Kept (fun i => i = t.b) w1 (timesRest w1 b1) := ((Kept.refl _ _).alloc _).alloc _
 have ha : TrAt (timesRest w1 b1) t g st1 fold vn1 nl1 := h1.nil (((Kept.refl _ _).alloc _).alloc _)
 have ba : Blk (timesRest w1 b1) (w1.heap.size + 1) (nodeCells sTimes (.slice none 0 0) false false (.slice (some ⟨w1.heap.size, 0, none⟩) 1 1) 0 0 (-1) false) 126 := Blk.new' _ _ (by rw [size_alloc1])
 have bk : Blk (timesRest w1 b1) w1.heap.size #[.pointer (some ⟨b1, 0, none⟩)] 33 := (Blk.new w1 _ _).alloc _
 go_wp2_with fail
 refine (Tr_atL ha).mono ?_
 rintro e w3 ⟨rfl, h3, hk3⟩
 have b3 := ba.kept hk3 (by omega)
 have bk3 := bk.kept hk3 (by omega)
 have k3 := ka.trans hk3
 have s3 := k3.size
 have hne : t.l ≠ [] := by intro e; have h0 : t.l.length = 0 := (by rw [e]; rfl); omega
 obtain ⟨hao, _, _⟩ := h3.gl.isSome hne
 have c30 : w3.cell? ⟨t.b, 0, none⟩ = some (.slice (some ⟨t.bl, 0, none⟩) t.l.length t.cap) := by rw [← hao]; exact h3.blk.cell 0
 have c31 : w3.cell? ⟨t.b, 1, none⟩ = some (.int .i64 st1.next) := h3.blk.cell 1
 have f31 : w3.frozen? ⟨t.b, 1, none⟩ = false := h3.blk.frozen 1
 have cpl := (h3.gl.cells st1.next (by omega)).2
 rw [← h3.ps st1.next (by omega)] at cpl
 change w3.cell? ⟨t.bl, st1.next * 3 + 1, none⟩ = some (.int .i64 (placeOf g st1)) at cpl
 have hpr : 0 ≤ placeOf g st1 ∧ placeOf g st1 ≤ 300 := h3.pr st1.next
 have hl3I : (st1.next : Int) < (t.l.length : Int) := by omega
 go_wp2_with fail
 go_region
 all_goals go_wp2_with fail
 have h4 := (h3.nil (Kept.refl Nil w3).drew).step (by omega)
 have k4 : Kept (fun i => i = t.b) w1 (w3.drew.setCell ⟨t.b, 1, none⟩ (.int .i64 ((st1.next : Int) + 1))) := (k3.drew).trans (own1 (w := w3.drew) (t := t) 1 (.int .i64 ((st1.next : Int) + 1)))
 have b4 : Blk (w3.drew.setCell ⟨t.b, 1, none⟩ (.int .i64 ((st1.next : Int) + 1))) _ _ _ := (Blk.drew b3).setCell_other (p := ⟨t.b, 1, none⟩) (show w1.heap.size + 1 ≠ t.b by omega) (.int .i64 ((st1.next : Int) + 1))
 have bk4 : Blk (w3.drew.setCell ⟨t.b, 1, none⟩ (.int .i64 ((st1.next : Int) + 1))) _ _ _ := (Blk.drew bk3).setCell_other (p := ⟨t.b, 1, none⟩) (show w1.heap.size ≠ t.b by omega) (.int .i64 ((st1.next : Int) + 1))
 have hnt := number_tr h4 (by rw [HN.out]; exact hf1) (by rw [HN.out]; exact hnd)
 rw [HN.out] at hnt
 refine hnt.mono ?_
 rintro e w5 ⟨rfl, h5, hk5⟩
 have k5 := k4.trans hk5
 have b5 := b4.kept hk5 (by omega)
 have bk5 := bk4.kept hk5 (by omega)
 clear hnt h4 b4 bk4 h3 b3 bk3 c30 c31 f31 cpl ha ba bk hk3
 have c56 : w5.cell? ⟨w1.heap.size + 1, 6, none⟩ = some (.int .i64 0) := b5.cell 6
 have f56 : w5.frozen? ⟨w1.heap.size + 1, 6, none⟩ = false := b5.frozen 6
 have c57 : w5.cell? ⟨w1.heap.size + 1, 7, none⟩ = some (.int .i64 (-1)) := b5.cell 7
 have f57 : w5.frozen? ⟨w1.heap.size + 1, 7, none⟩ = false := b5.frozen 7
 have kn : Kept (fun i => i = w1.heap.size + 1) w5 ((w5.setCell ⟨w1.heap.size + 1, 6, none⟩ (.int .i64 n.2)).setCell ⟨w1.heap.size + 1, 7, none⟩ (.int .i64 n.2)) := ((Kept.refl (fun i => i = w1.heap.size + 1) _).setCell (p := ⟨w1.heap.size + 1, 6, none⟩) (Or.inl rfl) _).setCell (p := ⟨w1.heap.size + 1, 7, none⟩) (Or.inl rfl) _
 have h7 := h5.new h1 kn (fun i hi => by omega) (fun b hb hx => by have := (ownsRow_block h1.names hb).2; omega)
 have k7 := k5.trans' kn (fun i hi he => by omega)
 have b7 := (b5.setCell 6 (.int .i64 n.2)).setCell 7 (.int .i64 n.2)
 have bk7 := bk5.kept kn (by omega)
 go_wp2_with fail
 refine (Tr_atL h7).mono ?_
 rintro e w8 ⟨rfl, h8, hk8⟩
 have k8 := k7.trans hk8
 have b8 := b7.kept hk8 (by omega)
 have bk8 := bk7.kept hk8 (by omega)
 clear h7 b7 bk7 kn h5 b5 bk5 c56 f56 c57 f57 hk5 k4 k5 k7
 obtain ⟨sx, hsx⟩ : ∃ sx, sx = n.1 := ⟨_, rfl⟩
 have ht : TrAt w8 t g sx fold vn1 nl1 := by rw [hsx]; exact h8
 have hxl2 : sx.next < g.rs.length := by rw [hsx]; exact hxl
 have c1 : w8.cell? ⟨t.b, 1, none⟩ = some (.int .i64 sx.next) := ht.blk.cell 1
 have f1 : w8.frozen? ⟨t.b, 1, none⟩ = false := ht.blk.frozen 1
 have h9 := fun m => (ht.step (by omega)).nil ((Kept.refl Nil _).drewN m)
 have k9 := fun m => (k8.trans (own1 (w := w8) (t := t) 1 (.int .i64 ((sx.next : Int) + 1)))).drewN m
 have b9 := fun m => Blk.drewN (b8.setCell_other (p := ⟨t.b, 1, none⟩) (show w1.heap.size + 1 ≠ t.b by omega) (.int .i64 ((sx.next : Int) + 1))) m
 have bk9 := fun m => Blk.drewN (bk8.setCell_other (p := ⟨t.b, 1, none⟩) (show w1.heap.size ≠ t.b by omega) (.int .i64 ((sx.next : Int) + 1))) m
 have d4 : w8.cell? ⟨t.b, 4, none⟩ = some (.int .i64 (orNeg sx.flt.rep)) := ht.blk.cell 4
 have g4 : w8.frozen? ⟨t.b, 4, none⟩ = false := ht.blk.frozen 4
 have d6 : w8.cell? ⟨w1.heap.size + 1, 6, none⟩ = some (.int .i64 n.2) := b8.cell 6
 have d7 : w8.cell? ⟨w1.heap.size + 1, 7, none⟩ = some (.int .i64 n.2) := b8.cell 7
 have hsl : sx.next ≤ 300 := by omega
 have hLr : 0 ≤ n.2 ∧ n.2 ≤ 99 := hr0
 have hMr : -1 ≤ n.2 ∧ n.2 ≤ 99 := (by omega)
 cases hrep : sx.flt.rep with
 | some pq =>
  have hpos : decide (pq < 0) = false := by have := ht.fok.1 pq hrep; exact decide_eq_false (by omega)
  rw [hrep, show orNeg (some pq) = pq from rfl] at d4
  have h10 : ∀ m, TrAt ((w8.setCell ⟨t.b, 1, none⟩ (.int .i64 ((sx.next : Int) + 1))).drewN m) t g (repNote { sx with next := sx.next + 1 } n.2 n.2 (placeOf g st1)) fold vn1 nl1 := by
   intro m
   unfold repNote
   split
   ·exact (h9 m).keepRep _ (by simp [hrep])
   ·exact h9 m
  obtain ⟨sz, hsz⟩ : ∃ sz, sz = repNote { sx with next := sx.next + 1 } n.2 n.2 (placeOf g st1) := ⟨_, rfl⟩
  have HZ : Hid (repNote { n.1 with next := (n.1).next + 1 } n.2 n.2 (placeOf g st1) = sz) := by show _ = _; rw [hsz, hsx]
  have hz := h10
  rw [← hsz] at hz
  clear hsz hsx h9
  go_wp2_with fail
  go_quiet (fail)
  go_wp2_with fail
  refine (Tr_atL (hz _)).mono ?_
  rintro e w6 ⟨rfl, h6, hk6⟩
  have k6 := (k9 _).trans hk6
  have b6 := (b9 _).kept hk6 (by omega)
  have bk6 := (bk9 _).kept hk6 (by omega)
  cases hq : (seeOf g sz == 63)
  ·go_wp2_with fail
   go_ret
   rw [HZ.out, takeNQ hq, inQ, hq]
   exact times_node h1 q2 q3 q4 h6 k6 htb (bk6.cell 0) (Nat.le_refl _) b6 (by omega) (by omega) (by omega)
  ·have hlt6 := lt_of_see (g := g) (st := sz) (by rw [beq_iff_eq.1 hq]; omega)
   have c61 : w6.cell? ⟨t.b, 1, none⟩ = some (.int .i64 sz.next) := h6.blk.cell 1
   have f61 : w6.frozen? ⟨t.b, 1, none⟩ = false := h6.blk.frozen 1
   have c68 : w6.cell? ⟨w1.heap.size + 1, 8, none⟩ = some (.bool false) := b6.cell 8
   have f68 : w6.frozen? ⟨w1.heap.size + 1, 8, none⟩ = false := b6.frozen 8
   have h7 := h6.step (by omega)
   have kn7 : Kept (fun i => i = w1.heap.size + 1) (w6.setCell ⟨t.b, 1, none⟩ (.int .i64 ((sz.next : Int) + 1))) ((w6.setCell ⟨t.b, 1, none⟩ (.int .i64 ((sz.next : Int) + 1))).setCell ⟨w1.heap.size + 1, 8, none⟩ (.bool true)) := (Kept.refl (fun i => i = w1.heap.size + 1) _).setCell (p := ⟨w1.heap.size + 1, 8, none⟩) (Or.inl rfl) _
   have h8 := h7.new h1 kn7 (fun i hi => by omega) (fun b hb hx => by have := (ownsRow_block h1.names hb).2; omega)
   have k8 := (k6.trans (own1 (w := w6) (t := t) 1 (.int .i64 ((sz.next : Int) + 1)))).trans' kn7 (fun i hi he => by omega)
   have b8 := (b6.setCell_other (p := ⟨t.b, 1, none⟩) (show w1.heap.size + 1 ≠ t.b by omega) (.int .i64 ((sz.next : Int) + 1))).setCell 8 (.bool true)
   have bk8 := (bk6.setCell_other (p := ⟨t.b, 1, none⟩) (show w1.heap.size ≠ t.b by omega) (.int .i64 ((sz.next : Int) + 1))).setCell_other (p := ⟨w1.heap.size + 1, 8, none⟩) (show w1.heap.size ≠ w1.heap.size + 1 by omega) (.bool true)
   go_wp2_with fail
   go_ret
   rw [HZ.out, takeQ hq, inQ, hq]
   exact times_node h1 q2 q3 q4 h8 k8 htb (bk8.cell 0) (Nat.le_refl _) b8 (by omega) (by omega) (by omega)
 | none =>
  rw [hrep, show orNeg none = -1 from rfl] at d4
  by_cases hc : n.2 > 20 ∨ n.2 > 20 ∨ (n.2 ≠ -1 ∧ n.2 < n.2)
  ·have h10 : ∀ m, TrAt (((w8.setCell ⟨t.b, 1, none⟩ (.int .i64 ((sx.next : Int) + 1))).drewN m).setCell ⟨t.b, 4, none⟩ (.int .i64 (placeOf g st1))) t g (repNote { sx with next := sx.next + 1 } n.2 n.2 (placeOf g st1)) fold vn1 nl1 := by
    intro m
    rw [repNote_pos _ hc]
    exact (h9 m).setRep _ hpr.1 hrep
   have k10 := fun m => (k9 m).trans (own1 (w := ((w8.setCell ⟨t.b, 1, none⟩ (.int .i64 ((sx.next : Int) + 1))).drewN m)) (t := t) 4 (.int .i64 (placeOf g st1)))
   have b10 := fun m => (b9 m).setCell_other (p := ⟨t.b, 4, none⟩) (show w1.heap.size + 1 ≠ t.b by omega) (.int .i64 (placeOf g st1))
   have bk10 := fun m => (bk9 m).setCell_other (p := ⟨t.b, 4, none⟩) (show w1.heap.size ≠ t.b by omega) (.int .i64 (placeOf g st1))
   by_cases hL20 : 20 < n.2
   ·clear hc
    obtain ⟨sz, hsz⟩ : ∃ sz, sz = repNote { sx with next := sx.next + 1 } n.2 n.2 (placeOf g st1) := ⟨_, rfl⟩
    have HZ : Hid (repNote { n.1 with next := (n.1).next + 1 } n.2 n.2 (placeOf g st1) = sz) := by show _ = _; rw [hsz, hsx]
    have hz := h10
    rw [← hsz] at hz
    clear hsz hsx h9
    go_wp2_with fail
    go_quiet (fail)
    go_wp2_with fail
    refine (Tr_atL (hz _)).mono ?_
    rintro e w6 ⟨rfl, h6, hk6⟩
    have k6 := (k10 _).trans hk6
    have b6 := (b10 _).kept hk6 (by omega)
    have bk6 := (bk10 _).kept hk6 (by omega)
    cases hq : (seeOf g sz == 63)
    ·go_wp2_with fail
     go_ret
     rw [HZ.out, takeNQ hq, inQ, hq]
     exact times_node h1 q2 q3 q4 h6 k6 htb (bk6.cell 0) (Nat.le_refl _) b6 (by omega) (by omega) (by omega)
    ·have hlt6 := lt_of_see (g := g) (st := sz) (by rw [beq_iff_eq.1 hq]; omega)
     have c61 : w6.cell? ⟨t.b, 1, none⟩ = some (.int .i64 sz.next) := h6.blk.cell 1
     have f61 : w6.frozen? ⟨t.b, 1, none⟩ = false := h6.blk.frozen 1
     have c68 : w6.cell? ⟨w1.heap.size + 1, 8, none⟩ = some (.bool false) := b6.cell 8
     have f68 : w6.frozen? ⟨w1.heap.size + 1, 8, none⟩ = false := b6.frozen 8
     have h7 := h6.step (by omega)
     have kn7 : Kept (fun i => i = w1.heap.size + 1) (w6.setCell ⟨t.b, 1, none⟩ (.int .i64 ((sz.next : Int) + 1))) ((w6.setCell ⟨t.b, 1, none⟩ (.int .i64 ((sz.next : Int) + 1))).setCell ⟨w1.heap.size + 1, 8, none⟩ (.bool true)) := (Kept.refl (fun i => i = w1.heap.size + 1) _).setCell (p := ⟨w1.heap.size + 1, 8, none⟩) (Or.inl rfl) _
     have h8 := h7.new h1 kn7 (fun i hi => by omega) (fun b hb hx => by have := (ownsRow_block h1.names hb).2; omega)
     have k8 := (k6.trans (own1 (w := w6) (t := t) 1 (.int .i64 ((sz.next : Int) + 1)))).trans' kn7 (fun i hi he => by omega)
     have b8 := (b6.setCell_other (p := ⟨t.b, 1, none⟩) (show w1.heap.size + 1 ≠ t.b by omega) (.int .i64 ((sz.next : Int) + 1))).setCell 8 (.bool true)
     have bk8 := (bk6.setCell_other (p := ⟨t.b, 1, none⟩) (show w1.heap.size ≠ t.b by omega) (.int .i64 ((sz.next : Int) + 1))).setCell_other (p := ⟨w1.heap.size + 1, 8, none⟩) (show w1.heap.size ≠ w1.heap.size + 1 by omega) (.bool true)
     go_wp2_with fail
     go_ret
     rw [HZ.out, takeQ hq, inQ, hq]
     exact times_node h1 q2 q3 q4 h8 k8 htb (bk8.cell 0) (Nat.le_refl _) b8 (by omega) (by omega) (by omega)
   ·by_cases hM20 : 20 < n.2
    ·have gL : decide (20 < n.2) = false := decide_eq_false (by omega)
     clear hc hL20
     exfalso; simp at gL; omega
    ·have hM0 : 0 ≤ n.2 := by omega
     have hML : n.2 < n.2 := by omega
     exfalso; omega
  ·have h10 : ∀ m, TrAt ((w8.setCell ⟨t.b, 1, none⟩ (.int .i64 ((sx.next : Int) + 1))).drewN m) t g (repNote { sx with next := sx.next + 1 } n.2 n.2 (placeOf g st1)) fold vn1 nl1 := by
    intro m
    rw [repNote_neg _ hc]
    exact h9 m
   have gL : decide (20 < n.2) = false := decide_eq_false (by omega)
   have gM : decide (20 < n.2) = false := decide_eq_false (by omega)
   by_cases hM0 : 0 ≤ n.2
   ·have hML : decide (n.2 < n.2) = false := decide_eq_false (by omega)
    clear hc
    obtain ⟨sz, hsz⟩ : ∃ sz, sz = repNote { sx with next := sx.next + 1 } n.2 n.2 (placeOf g st1) := ⟨_, rfl⟩
    have HZ : Hid (repNote { n.1 with next := (n.1).next + 1 } n.2 n.2 (placeOf g st1) = sz) := by show _ = _; rw [hsz, hsx]
    have hz := h10
    rw [← hsz] at hz
    clear hsz hsx h9
    go_wp2_with fail
    go_quiet (fail)
    go_wp2_with fail
    refine (Tr_atL (hz _)).mono ?_
    rintro e w6 ⟨rfl, h6, hk6⟩
    have k6 := (k9 _).trans hk6
    have b6 := (b9 _).kept hk6 (by omega)
    have bk6 := (bk9 _).kept hk6 (by omega)
    cases hq : (seeOf g sz == 63)
    ·go_wp2_with fail
     go_ret
     rw [HZ.out, takeNQ hq, inQ, hq]
     exact times_node h1 q2 q3 q4 h6 k6 htb (bk6.cell 0) (Nat.le_refl _) b6 (by omega) (by omega) (by omega)
    ·have hlt6 := lt_of_see (g := g) (st := sz) (by rw [beq_iff_eq.1 hq]; omega)
     have c61 : w6.cell? ⟨t.b, 1, none⟩ = some (.int .i64 sz.next) := h6.blk.cell 1
     have f61 : w6.frozen? ⟨t.b, 1, none⟩ = false := h6.blk.frozen 1
     have c68 : w6.cell? ⟨w1.heap.size + 1, 8, none⟩ = some (.bool false) := b6.cell 8
     have f68 : w6.frozen? ⟨w1.heap.size + 1, 8, none⟩ = false := b6.frozen 8
     have h7 := h6.step (by omega)
     have kn7 : Kept (fun i => i = w1.heap.size + 1) (w6.setCell ⟨t.b, 1, none⟩ (.int .i64 ((sz.next : Int) + 1))) ((w6.setCell ⟨t.b, 1, none⟩ (.int .i64 ((sz.next : Int) + 1))).setCell ⟨w1.heap.size + 1, 8, none⟩ (.bool true)) := (Kept.refl (fun i => i = w1.heap.size + 1) _).setCell (p := ⟨w1.heap.size + 1, 8, none⟩) (Or.inl rfl) _
     have h8 := h7.new h1 kn7 (fun i hi => by omega) (fun b hb hx => by have := (ownsRow_block h1.names hb).2; omega)
     have k8 := (k6.trans (own1 (w := w6) (t := t) 1 (.int .i64 ((sz.next : Int) + 1)))).trans' kn7 (fun i hi he => by omega)
     have b8 := (b6.setCell_other (p := ⟨t.b, 1, none⟩) (show w1.heap.size + 1 ≠ t.b by omega) (.int .i64 ((sz.next : Int) + 1))).setCell 8 (.bool true)
     have bk8 := (bk6.setCell_other (p := ⟨t.b, 1, none⟩) (show w1.heap.size ≠ t.b by omega) (.int .i64 ((sz.next : Int) + 1))).setCell_other (p := ⟨w1.heap.size + 1, 8, none⟩) (show w1.heap.size ≠ w1.heap.size + 1 by omega) (.bool true)
     go_wp2_with fail
     go_ret
     rw [HZ.out, takeQ hq, inQ, hq]
     exact times_node h1 q2 q3 q4 h8 k8 htb (bk8.cell 0) (Nat.le_refl _) b8 (by omega) (by omega) (by omega)
   ·exfalso; omega
end Go.Proofs.YtfollffpibmgcaaGreatDoor
