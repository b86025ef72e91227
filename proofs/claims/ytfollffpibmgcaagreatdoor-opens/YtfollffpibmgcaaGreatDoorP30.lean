/- The engines of the program come back: NewFollower, both NewEngine, NewCourse, flow. The engine of marks of the program comes back. The program's flow comes back: NewCourse, flow. -/
import Derived.Test.YtfollffpibmgcaaGreatDoorP29
import Derived.Laws.MakeOwn
import Derived.Deep.DeepCutAuto
set_option linter.unusedVariables false
set_option maxRecDepth 100000
namespace Go.Proofs.YtfollffpibmgcaaGreatDoor
open Go.RowKit Go.Maps
def MvS (B : Nat) (ao : Option Addr) (n c : Nat) (u x : Int) (w' : World) : Prop := w'.cell? ⟨B, 0, none⟩ = some (.slice ao n c) ∧ w'.cell? ⟨B, 1, none⟩ = some (.int .i64 u) ∧ w'.cell? ⟨B, 2, none⟩ = some (.int .i64 x)
theorem MvS.of {W : World} {B n c : Nat} {ao : Option Addr} {u x : Int} {t : TypeId} (h : Blk W B #[.slice ao n c, .int .i64 u, .int .i64 x] t) : MvS B ao n c u x W := ⟨h.cell 0, h.cell 1, h.cell 2⟩
theorem Tryz.infoBool : (Tryz.prog.info? 4).map (fun i => (i.zero, i.size, i.bytes)) = some (some (.bool false), 1, 1) := by kernel_rfl
def PtrP (w : World) : Ending → World → Prop := fun e w' => ∃ p : Nat, e = .returned (.pointer (some ⟨p, 0, none⟩)) ∧ Kept Nil w w'
set_option maxHeartbeats 2000000 in
theorem newFollower_rd {w : World} {ao : Option Addr} {n c : Nat} {u x : Int} (hn : n ≤ 4001) :
  Calls Tryz.prog 58 #[.agg #[.slice ao n c, .int .i64 u, .int .i64 x]] w (PtrP w) := by
 have B0 := Blk.new w #[.slice ao n c, .int .i64 u, .int .i64 x] 65
 have PSG : Hid (∀ W, Kept Nil (w.alloc (.cells #[.slice ao n c, .int .i64 u, .int .i64 x] 65)) W → MvS w.heap.size ao n c u x W) := fun W k => MvS.of (B0.kept k (fun hx => hx))
 obtain ⟨i0, hi0, hz0, hz1, hz2⟩ := info_parts Tryz.infoBool
 obtain ⟨Z, hZ⟩ : ∃ Z, Z = madeCells (Value.bool false).cells ((n : Int).toNat * i0.size) := ⟨_, rfl⟩
 have mk : ∀ W : World, (Instr.makeSlice 162 (.int .i64 (n : Int)) (.int .i64 (n : Int))).run Tryz.prog W = .ok (.slice (some ⟨W.heap.size, 0, none⟩) n n) (W.alloc (.cells Z 4)) := fun W => by
  have := run_makeSlice (P := Tryz.prog) W 162 4 i0 (.bool false) Tryz.underlying162 hi0 hz0 .i64 .i64 (n : Int) (n : Int) (by omega) (Int.le_refl _) (by rw [hz1]; omega) (by rw [hz2]; omega) (by omega)
  rw [← hZ] at this
  simpa using this
 clear B0 hZ hi0 hz0 hz1 hz2
 go_enter Tryz.func58, Tryz.ntmps58
 go_wp2_with fail
 refine wp_region_last (S := MvS w.heap.size ao n c u x) 11 (by kernel_rfl) rfl rfl rfl (by kernel_rfl) (by kernel_rfl) ?_
 have hS0 := PSG.out ((w.alloc (.cells #[.slice ao n c, .int .i64 u, .int .i64 x] 65)).drew) (Kept.refl _ _).drew
 refine takeH 0 3 (.agg #[.slice ao n c, .int .i64 u, .int .i64 x]) rfl rfl (by kernel_rfl) (by kernel_rfl) (by kernel_rfl) (fun _ _ _ h => h) (Or.inl ⟨by rfl, fun W hSW => by obtain ⟨s0, s1, s2⟩ := hSW; go_simp⟩) hS0 ?_
 refine takeH 1 4 (.pointer (some ⟨w.heap.size, 0, none⟩)) rfl rfl (by kernel_rfl) (by kernel_rfl) (by kernel_rfl) (fun _ _ _ h => h) (Or.inl ⟨by rfl, fun W hSW => by obtain ⟨s0, s1, s2⟩ := hSW; go_simp⟩) hS0 ?_
 refine takeH 2 5 (.slice ao n c) rfl rfl (by kernel_rfl) (by kernel_rfl) (by kernel_rfl) (fun _ _ _ h => h) (Or.inl ⟨by rfl, fun W hSW => by obtain ⟨s0, s1, s2⟩ := hSW; go_simp⟩) hS0 ?_
 refine takeH 3 6 (.int .i64 (n : Int)) rfl rfl (by kernel_rfl) (by kernel_rfl) (by kernel_rfl) (fun _ _ _ h => h) (Or.inl ⟨by rfl, fun W hSW => by obtain ⟨s0, s1, s2⟩ := hSW; go_simp⟩) hS0 ?_
 refine takeH 5 8 (.pointer (some ⟨w.heap.size, 0, none⟩)) rfl rfl (by kernel_rfl) (by kernel_rfl) (by kernel_rfl) (fun _ _ _ h => h) (Or.inl ⟨by rfl, fun W hSW => by obtain ⟨s0, s1, s2⟩ := hSW; go_simp⟩) hS0 ?_
 refine takeH 6 9 (.slice ao n c) rfl rfl (by kernel_rfl) (by kernel_rfl) (by kernel_rfl) (fun _ _ _ h => h) (Or.inl ⟨by rfl, fun W hSW => by obtain ⟨s0, s1, s2⟩ := hSW; go_simp⟩) hS0 ?_
 refine takeH 7 10 (.int .i64 (n : Int)) rfl rfl (by kernel_rfl) (by kernel_rfl) (by kernel_rfl) (fun _ _ _ h => h) (Or.inl ⟨by rfl, fun W hSW => by obtain ⟨s0, s1, s2⟩ := hSW; go_simp⟩) hS0 ?_
 simp only [Act.put, List.setIfInBounds_toArray, List.set_cons_zero, List.set_cons_succ]
 refine wpAnyH_ready (rs := [4, 8]) (by kernel_rfl) (by simp) (AllReadyH.cons rfl (fun K hK => ?_) (AllReadyH.cons rfl (fun K hK => ?_) AllReadyH.nil))
 ·go_simp
  refine hK.out _ _ (PSG.out _ (by repeat first | exact Kept.refl _ _ | apply Kept.alloc | apply Kept.drew | apply Kept.drewN)) (fun _ => ?_)
  clear hK K
  refine wpAnyH_ready (rs := [8]) (by kernel_rfl) (by simp) (AllReadyH.cons rfl (fun K hK => ?_) AllReadyH.nil)
  go_simp
  refine hK.out _ _ (PSG.out _ (by repeat first | exact Kept.refl _ _ | apply Kept.alloc | apply Kept.drew | apply Kept.drewN)) (fun _ => ?_)
  clear hK K
  refine wpAnyH_ready (rs := [9]) (by kernel_rfl) (by simp) (AllReadyH.cons rfl (fun K hK => ?_) AllReadyH.nil)
  go_simp
  refine hK.out _ _ (PSG.out _ (by repeat first | exact Kept.refl _ _ | apply Kept.alloc | apply Kept.drew | apply Kept.drewN)) (fun _ => ?_)
  clear hK K
  refine wpAnyH_ready (rs := [10]) (by kernel_rfl) (by simp) (AllReadyH.cons rfl (fun K hK => ?_) AllReadyH.nil)
  go_simp
  refine hK.out _ _ (PSG.out _ (by repeat first | exact Kept.refl _ _ | apply Kept.alloc | apply Kept.drew | apply Kept.drewN)) (fun _ => ?_)
  clear hK K
  refine wpAnyH_done (by kernel_rfl) ?_ _
  unfold thenLast
  simp only [List.getElem_toArray, List.getElem_cons_succ, List.getElem_cons_zero]
  go_simp
  go_wp2_with fail
  go_ret
  exact ⟨_, rfl, (by repeat first | exact Kept.refl _ _ | apply Kept.alloc | apply Kept.drew | apply Kept.drewN)⟩
 ·go_simp
  refine hK.out _ _ (PSG.out _ (by repeat first | exact Kept.refl _ _ | apply Kept.alloc | apply Kept.drew | apply Kept.drewN)) (fun _ => ?_)
  clear hK K
  refine wpAnyH_ready (rs := [4]) (by kernel_rfl) (by simp) (AllReadyH.cons rfl (fun K hK => ?_) AllReadyH.nil)
  go_simp
  refine hK.out _ _ (PSG.out _ (by repeat first | exact Kept.refl _ _ | apply Kept.alloc | apply Kept.drew | apply Kept.drewN)) (fun _ => ?_)
  clear hK K
  refine wpAnyH_ready (rs := [9]) (by kernel_rfl) (by simp) (AllReadyH.cons rfl (fun K hK => ?_) AllReadyH.nil)
  go_simp
  refine hK.out _ _ (PSG.out _ (by repeat first | exact Kept.refl _ _ | apply Kept.alloc | apply Kept.drew | apply Kept.drewN)) (fun _ => ?_)
  clear hK K
  refine wpAnyH_ready (rs := [10]) (by kernel_rfl) (by simp) (AllReadyH.cons rfl (fun K hK => ?_) AllReadyH.nil)
  go_simp
  refine hK.out _ _ (PSG.out _ (by repeat first | exact Kept.refl _ _ | apply Kept.alloc | apply Kept.drew | apply Kept.drewN)) (fun _ => ?_)
  clear hK K
  refine wpAnyH_done (by kernel_rfl) ?_ _
  unfold thenLast
  simp only [List.getElem_toArray, List.getElem_cons_succ, List.getElem_cons_zero]
  go_simp
  go_wp2_with fail
  go_ret
  exact ⟨_, rfl, (by repeat first | exact Kept.refl _ _ | apply Kept.alloc | apply Kept.drew | apply Kept.drewN)⟩
set_option maxHeartbeats 2000000 in
theorem hNewEngine_rd {w : World} {ao : Option Addr} {n c : Nat} {u x : Int} (hn : n ≤ 4001) :
  Calls Tryz.prog 38 #[.agg #[.slice ao n c, .int .i64 u, .int .i64 x]] w (PtrP w) := by
 have B0 := Blk.new w #[.slice ao n c, .int .i64 u, .int .i64 x] 65
 have PSG : Hid (∀ W, Kept Nil (w.alloc (.cells #[.slice ao n c, .int .i64 u, .int .i64 x] 65)) W → MvS w.heap.size ao n c u x W) := fun W k => MvS.of (B0.kept k (fun hx => hx))
 have F := hid (newFollower_rd (w := (w.alloc (.cells #[.slice ao n c, .int .i64 u, .int .i64 x] 65)).drew) (ao := ao) (n := n) (c := c) (u := u) (x := x) hn)
 clear B0
 go_enter Tryz.func38, Tryz.ntmps38
 go_wp2_with fail
 refine wp_region_last (S := MvS w.heap.size ao n c u x) 6 (by kernel_rfl) rfl rfl rfl (by kernel_rfl) (by kernel_rfl) ?_
 have hS0 := PSG.out ((w.alloc (.cells #[.slice ao n c, .int .i64 u, .int .i64 x] 65)).drew) (Kept.refl _ _).drew
 refine takeH 0 3 (.pointer (some ⟨w.heap.size, 1, none⟩)) rfl rfl (by kernel_rfl) (by kernel_rfl) (by kernel_rfl) (fun _ _ _ h => h) (Or.inl ⟨by rfl, fun W hSW => by obtain ⟨s0, s1, s2⟩ := hSW; go_simp⟩) hS0 ?_
 refine takeH 1 4 (.int .i64 u) rfl rfl (by kernel_rfl) (by kernel_rfl) (by kernel_rfl) (fun _ _ _ h => h) (Or.inl ⟨by rfl, fun W hSW => by obtain ⟨s0, s1, s2⟩ := hSW; go_simp⟩) hS0 ?_
 refine takeH 2 5 (.agg #[.slice ao n c, .int .i64 u, .int .i64 x]) rfl rfl (by kernel_rfl) (by kernel_rfl) (by kernel_rfl) (fun _ _ _ h => h) (Or.inl ⟨by rfl, fun W hSW => by obtain ⟨s0, s1, s2⟩ := hSW; go_simp⟩) hS0 ?_
 simp only [Act.put, List.setIfInBounds_toArray, List.set_cons_zero, List.set_cons_succ]
 refine wpAnyH_ready (rs := [3]) (by kernel_rfl) (by simp) (AllReadyH.cons rfl (fun K hK => ?_) AllReadyH.nil)
 go_simp
 refine (F.out).mono ?_
 rintro e w5 ⟨p, rfl, k5⟩
 dsimp only
 have K5 := hid (((Kept.refl Nil (w.alloc (.cells #[.slice ao n c, .int .i64 u, .int .i64 x] 65))).drew).trans k5)
 refine hK.out _ _ (PSG.out _ K5.out) (fun _ => ?_)
 clear hK K F k5
 refine wpAnyH_ready (rs := [4]) (by kernel_rfl) (by simp) (AllReadyH.cons rfl (fun K hK => ?_) AllReadyH.nil)
 go_simp
 refine hK.out _ _ (PSG.out _ K5.out) (fun _ => ?_)
 clear hK K
 refine wpAnyH_ready (rs := [5]) (by kernel_rfl) (by simp) (AllReadyH.cons rfl (fun K hK => ?_) AllReadyH.nil)
 go_simp
 refine hK.out _ _ (PSG.out _ (K5.out.alloc _)) (fun _ => ?_)
 clear hK K
 refine wpAnyH_done (by kernel_rfl) ?_ _
 unfold thenLast
 simp only [List.getElem_toArray, List.getElem_cons_succ, List.getElem_cons_zero]
 go_simp
 go_wp2_with fail
 go_ret
 exact ⟨_, rfl, (((Kept.refl Nil w).alloc _).trans K5.out).alloc _⟩
set_option maxRecDepth 100000
theorem ownsMap_lt {w : World} {P : Program} {k : TypeId} {R : Value → Option (DataW Unit × List MemPlace)} {b n : Nat} {D : DataW Unit} (h : w.ownsMap P k R b n D) : b < w.heap.size := by
 obtain ⟨es, clock, hb, _⟩ := h
 exact (Array.getElem?_eq_some_iff.1 hb).1
theorem Blk.new2 (w : World) (cs : Array Value) (t : TypeId) (k : Nat) (hk : w.heap.size = k) : Blk (w.alloc (.cells cs t)) k cs t := by subst hk; exact Blk.new w cs t
set_option maxHeartbeats 4000000 in
theorem kNewEngine_rd {w : World} {lo hi base : Nat} {ao : Option Addr} {n c : Nat} {u x mo : Int} {ms : List MS} (h : McAt w lo hi base (.slice ao n c) ms) (hlh : hi ≤ w.heap.size) (hnm : n = ms.length) (hne : 0 < n) (hn : n ≤ 4001) (hmo : 2 ≤ mo) :
  Calls Tryz.prog 39 #[.agg #[.slice ao n c, .int .i64 u, .int .i64 x], .int .i64 mo] w (PtrP w) := by
 have B0 := Blk.new w #[.slice ao n c, .int .i64 u, .int .i64 x] 65
 have PSG : Hid (∀ W, Kept Nil (w.alloc (.cells #[.slice ao n c, .int .i64 u, .int .i64 x] 65)) W → MvS w.heap.size ao n c u x W) := fun W k => MvS.of (B0.kept k (fun hx => hx))
 have HF : Hid (∀ W, Calls Tryz.prog 58 #[.agg #[.slice ao n c, .int .i64 u, .int .i64 x]] W (PtrP W)) := fun W => newFollower_rd hn
 have HC : Hid (∀ W, Kept Nil (w.alloc (.cells #[.slice ao n c, .int .i64 u, .int .i64 x] 65)) W → Calls Tryz.prog 59 #[.agg #[.slice ao n c, .int .i64 u, .int .i64 x]] W (fun e w' => ∃ v', e = .returned v' ∧ (∃ ao k c, v' = .slice ao k c) ∧ Kept Nil W w')) := fun W k => by
  have k' : Kept Nil w W := ((Kept.refl Nil w).alloc _).trans k
  have h' := h.kept k' (fun _ _ _ hx => hx) (fun _ _ hx => hx) hlh
  have := classesOf_rd (u := u) (x := x) h' (by have := k'.size; omega) (by omega) (by omega)
  simp only [mcV] at this
  exact this
 obtain ⟨g, c', hv, hg, hcc, hst⟩ := h.array (by omega)
 have hv' : Value.slice ao n c = .slice (some ⟨g, 0, none⟩) n c' := by rw [hv, hnm]
 cases hv'
 clear hv
 have HST := hid hst
 have HNM := hid hnm
 clear B0 h hst hnm
 go_enter Tryz.func39, Tryz.ntmps39
 go_wp2_with fail
 go_cut [5] (fun s5 wx => ∃ (b mp : Nat) (fo cl : Value), s5 = .pointer (some ⟨b, 0, none⟩) ∧ Hid (Blk wx b (enC u fo false cl mo mp (.pointer none) (.slice none 0 0)) 141) ∧ Hid (wx.ownsMap Tryz.prog 9 anyElem mp 0 (.map [])) ∧ mp ≠ b ∧ mp < wx.heap.size ∧ w.heap.size + 1 ≤ b ∧ w.heap.size + 1 ≤ mp ∧ Hid (Kept Nil (w.alloc (.cells #[.slice (some ⟨g, 0, none⟩) n c, .int .i64 u, .int .i64 x] 65)) wx))
 case first =>
  refine wp_region_last (S := MvS w.heap.size (some ⟨g, 0, none⟩) n c u x) 10 (by kernel_rfl) rfl rfl rfl (by kernel_rfl) (by kernel_rfl) ?_
  have hS0 := PSG.out ((w.alloc (.cells #[.slice (some ⟨g, 0, none⟩) n c, .int .i64 u, .int .i64 x] 65)).drew) (Kept.refl _ _).drew
  refine takeH 0 7 (.pointer (some ⟨w.heap.size, 1, none⟩)) rfl rfl (by kernel_rfl) (by kernel_rfl) (by kernel_rfl) (fun _ _ _ h => h) (Or.inl ⟨by rfl, fun W hSW => by obtain ⟨s0, s1, s2⟩ := hSW; go_simp⟩) hS0 ?_
  refine takeH 1 8 (.int .i64 u) rfl rfl (by kernel_rfl) (by kernel_rfl) (by kernel_rfl) (fun _ _ _ h => h) (Or.inl ⟨by rfl, fun W hSW => by obtain ⟨s0, s1, s2⟩ := hSW; go_simp⟩) hS0 ?_
  refine takeH 2 9 (.agg #[.slice (some ⟨g, 0, none⟩) n c, .int .i64 u, .int .i64 x]) rfl rfl (by kernel_rfl) (by kernel_rfl) (by kernel_rfl) (fun _ _ _ h => h) (Or.inl ⟨by rfl, fun W hSW => by obtain ⟨s0, s1, s2⟩ := hSW; go_simp⟩) hS0 ?_
  refine takeH 4 11 (.agg #[.slice (some ⟨g, 0, none⟩) n c, .int .i64 u, .int .i64 x]) rfl rfl (by kernel_rfl) (by kernel_rfl) (by kernel_rfl) (fun _ _ _ h => h) (Or.inl ⟨by rfl, fun W hSW => by obtain ⟨s0, s1, s2⟩ := hSW; go_simp⟩) hS0 ?_
  refine takeH 6 13 (.int .i64 mo) rfl rfl (by kernel_rfl) (by kernel_rfl) (by kernel_rfl) (fun _ _ _ h => h) (Or.inl ⟨by rfl, fun W hSW => by obtain ⟨s0, s1, s2⟩ := hSW; go_simp⟩) hS0 ?_
  simp only [Act.put, List.setIfInBounds_toArray, List.set_cons_zero, List.set_cons_succ]
  refine wpAnyH_ready (rs := [3, 7]) (by kernel_rfl) (by simp) (AllReadyH.cons rfl (fun K hK => ?_) (AllReadyH.cons rfl (fun K hK => ?_) AllReadyH.nil))
  ·go_simp
   refine (HF.out _).mono ?_
   rintro e w1 ⟨p, rfl, kw1⟩
   dsimp only
   have K1 := hid (((Kept.refl Nil (w.alloc (.cells #[.slice (some ⟨g, 0, none⟩) n c, .int .i64 u, .int .i64 x] 65))).drew).trans kw1)
   refine hK.out _ _ (PSG.out _ K1.out) (fun _ => ?_)
   clear hK K kw1
   refine wpAnyH_ready (rs := [5, 7]) (by kernel_rfl) (by simp) (AllReadyH.cons rfl (fun K hK => ?_) (AllReadyH.cons rfl (fun K hK => ?_) AllReadyH.nil))
   ·go_simp
    refine (HC.out _ (K1.out)).mono ?_
    rintro e w2 ⟨vc, rfl, ⟨aoc, kc, cc, rfl⟩, kw2⟩
    dsimp only
    have K2 := hid ((K1.out).trans kw2)
    refine hK.out _ _ (PSG.out _ K2.out) (fun _ => ?_)
    clear hK K kw2
    refine wpAnyH_ready (rs := [7]) (by kernel_rfl) (by simp) (AllReadyH.cons rfl (fun K hK => ?_) AllReadyH.nil)
    have HM := hid (World.ownsMap_made (w2) Tryz.prog 9 anyElem)
    go_simp
    refine hK.out _ _ (PSG.out _ (K2.out.alloc _)) (fun _ => ?_)
    clear hK K
    refine wpAnyH_ready (rs := [8]) (by kernel_rfl) (by simp) (AllReadyH.cons rfl (fun K hK => ?_) AllReadyH.nil)
    go_simp
    refine hK.out _ _ (PSG.out _ (K2.out.alloc (.map #[] 0))) (fun _ => ?_)
    clear hK K
    refine wpAnyH_ready (rs := [9]) (by kernel_rfl) (by simp) (AllReadyH.cons rfl (fun K hK => ?_) AllReadyH.nil)
    go_simp
    refine hK.out _ _ (PSG.out _ (Kept.alloc (K2.out.alloc (.map #[] 0)) _)) (fun _ => ?_)
    clear hK K
    refine wpAnyH_done (by kernel_rfl) ?_ _
    unfold thenLast
    simp only [List.getElem_toArray, List.getElem_cons_succ, List.getElem_cons_zero]
    go_simp
    go_wp2_with fail
    go_meet
    case rel =>
     have hs0 := Kept.size (K2.out.alloc (.map #[] 0))
     have hml := ownsMap_lt HM.out
     have hmp := K2.out.size
     simp only [size_alloc0] at hs0 hml hmp
     refine ⟨_, _, _, _, rfl, hid (Blk.new2 _ _ _ _ (by simp)), hid (ownsMap_kept HM.out ((Kept.refl Nil _).alloc _) (fun hx => hx)), ?_, ?_, ?_, ?_, hid (Kept.alloc (K2.out.alloc (.map #[] 0)) _)⟩
     ·first | omega | (simp only [size_alloc0]; omega)
     ·first | omega | (simp only [size_alloc0]; omega)
     ·first | omega | (simp only [size_alloc0]; omega)
     ·first | omega | (simp only [size_alloc0]; omega)
   ·have HM := hid (World.ownsMap_made (w1) Tryz.prog 9 anyElem)
    go_simp
    refine hK.out _ _ (PSG.out _ (K1.out.alloc _)) (fun _ => ?_)
    clear hK K
    refine wpAnyH_ready (rs := [5]) (by kernel_rfl) (by simp) (AllReadyH.cons rfl (fun K hK => ?_) AllReadyH.nil)
    go_simp
    refine (HC.out _ (K1.out.alloc _)).mono ?_
    rintro e w2 ⟨vc, rfl, ⟨aoc, kc, cc, rfl⟩, kw2⟩
    dsimp only
    have K2 := hid ((K1.out.alloc _).trans kw2)
    refine hK.out _ _ (PSG.out _ K2.out) (fun _ => ?_)
    have HM2 := hid (ownsMap_kept HM.out kw2 (fun hx => hx))
    clear hK K kw2
    refine wpAnyH_ready (rs := [8]) (by kernel_rfl) (by simp) (AllReadyH.cons rfl (fun K hK => ?_) AllReadyH.nil)
    go_simp
    refine hK.out _ _ (PSG.out _ K2.out) (fun _ => ?_)
    clear hK K
    refine wpAnyH_ready (rs := [9]) (by kernel_rfl) (by simp) (AllReadyH.cons rfl (fun K hK => ?_) AllReadyH.nil)
    go_simp
    refine hK.out _ _ (PSG.out _ (Kept.alloc K2.out _)) (fun _ => ?_)
    clear hK K
    refine wpAnyH_done (by kernel_rfl) ?_ _
    unfold thenLast
    simp only [List.getElem_toArray, List.getElem_cons_succ, List.getElem_cons_zero]
    go_simp
    go_wp2_with fail
    go_meet
    case rel =>
     have hs0 := Kept.size K2.out
     have hml := ownsMap_lt HM2.out
     have hmp := K1.out.size
     simp only [size_alloc0] at hs0 hml hmp
     refine ⟨_, _, _, _, rfl, hid (Blk.new2 _ _ _ _ (by simp)), hid (ownsMap_kept HM2.out ((Kept.refl Nil _).alloc _) (fun hx => hx)), ?_, ?_, ?_, ?_, hid (Kept.alloc K2.out _)⟩
     ·first | omega | (simp only [size_alloc0]; omega)
     ·first | omega | (simp only [size_alloc0]; omega)
     ·first | omega | (simp only [size_alloc0]; omega)
     ·first | omega | (simp only [size_alloc0]; omega)
  ·have HM : Hid (World.ownsMap ((w.alloc (.cells #[.slice (some ⟨g, 0, none⟩) n c, .int .i64 u, .int .i64 x] 65)).alloc (.map #[] 0)) Tryz.prog 9 anyElem (w.heap.size + 1) 0 (.map [])) := hid (by rw [← size_alloc0 w (.cells #[.slice (some ⟨g, 0, none⟩) n c, .int .i64 u, .int .i64 x] 65)]; exact World.ownsMap_made (w.alloc (.cells #[.slice (some ⟨g, 0, none⟩) n c, .int .i64 u, .int .i64 x] 65)) Tryz.prog 9 anyElem)
   go_simp
   refine hK.out _ _ (PSG.out _ ((Kept.refl Nil (w.alloc (.cells #[.slice (some ⟨g, 0, none⟩) n c, .int .i64 u, .int .i64 x] 65))).alloc _).drew) (fun _ => ?_)
   clear hK K
   refine wpAnyH_ready (rs := [3]) (by kernel_rfl) (by simp) (AllReadyH.cons rfl (fun K hK => ?_) AllReadyH.nil)
   go_simp
   refine (HF.out _).mono ?_
   rintro e w1 ⟨p, rfl, kw1⟩
   dsimp only
   have K1 := hid ((((Kept.refl Nil (w.alloc (.cells #[.slice (some ⟨g, 0, none⟩) n c, .int .i64 u, .int .i64 x] 65))).alloc (.map #[] 0)).drew).trans kw1)
   refine hK.out _ _ (PSG.out _ K1.out) (fun _ => ?_)
   have HM1 := hid (ownsMap_kept (show World.ownsMap (((w.alloc (.cells #[.slice (some ⟨g, 0, none⟩) n c, .int .i64 u, .int .i64 x] 65)).alloc (.map #[] 0)).drew) Tryz.prog 9 anyElem _ 0 (.map []) from HM.out) kw1 (fun hx => hx))
   clear hK K kw1
   refine wpAnyH_ready (rs := [5]) (by kernel_rfl) (by simp) (AllReadyH.cons rfl (fun K hK => ?_) AllReadyH.nil)
   go_simp
   refine (HC.out _ (K1.out)).mono ?_
   rintro e w2 ⟨vc, rfl, ⟨aoc, kc, cc, rfl⟩, kw2⟩
   dsimp only
   have K2 := hid ((K1.out).trans kw2)
   refine hK.out _ _ (PSG.out _ K2.out) (fun _ => ?_)
   have HM2 := hid (ownsMap_kept HM1.out kw2 (fun hx => hx))
   clear hK K kw2
   refine wpAnyH_ready (rs := [8]) (by kernel_rfl) (by simp) (AllReadyH.cons rfl (fun K hK => ?_) AllReadyH.nil)
   go_simp
   refine hK.out _ _ (PSG.out _ K2.out) (fun _ => ?_)
   clear hK K
   refine wpAnyH_ready (rs := [9]) (by kernel_rfl) (by simp) (AllReadyH.cons rfl (fun K hK => ?_) AllReadyH.nil)
   go_simp
   refine hK.out _ _ (PSG.out _ (Kept.alloc K2.out _)) (fun _ => ?_)
   clear hK K
   refine wpAnyH_done (by kernel_rfl) ?_ _
   unfold thenLast
   simp only [List.getElem_toArray, List.getElem_cons_succ, List.getElem_cons_zero]
   go_simp
   go_wp2_with fail
   go_meet
   case rel =>
    have hs0 := Kept.size K2.out
    have hml := ownsMap_lt HM2.out
    have hmp := Kept.size (Kept.refl Nil (w.alloc (.cells #[.slice (some ⟨g, 0, none⟩) n c, .int .i64 u, .int .i64 x] 65)))
    simp only [size_alloc0] at hs0 hml hmp
    refine ⟨_, _, _, _, rfl, hid (Blk.new2 _ _ _ _ (by simp)), hid (ownsMap_kept HM2.out ((Kept.refl Nil _).alloc _) (fun hx => hx)), ?_, ?_, ?_, ?_, hid (Kept.alloc K2.out _)⟩
    ·first | omega | (simp only [size_alloc0]; omega)
    ·first | omega | (simp only [size_alloc0]; omega)
    ·first | omega | (simp only [size_alloc0]; omega)
    ·first | omega | (simp only [size_alloc0]; omega)
 case rest =>
  obtain ⟨b, mp, fo, cl, rfl, HB, HM, hmb, hml, hbw, hmw, HK⟩ := hcut
  have m0 := (PSG.out _ HK.out).1
  clear HF HC
  go_wp2_with fail
  go_loopg [20] n (fun kk i wr => ∃ (k : Nat) (ed : Bool), i = .int .i64 (k : Int) ∧ k ≤ n ∧ kk = n - k ∧ Hid (Blk wr b (enC u fo ed cl mo mp (.pointer none) (.slice none 0 0)) 141) ∧ Hid (Kept (fun i => i = b) wc wr))
  case atStart => exact ⟨0, false, rfl, Nat.zero_le _, rfl, HB, Kept.refl _ _⟩
  case round =>
   obtain ⟨k, ed, rfl, hk, hkk, HB2, HK2⟩ := hrel
   clear HB
   have e2 : wr.cell? ⟨b, 2, none⟩ = some (.bool ed) := HB2.out.cell 2
   have f2 : wr.frozen? ⟨b, 2, none⟩ = false := HB2.out.frozen 2
   have hbl := HB2.out.lt
   have KW : Kept Nil (w.alloc (.cells #[.slice (some ⟨g, 0, none⟩) n c, .int .i64 u, .int .i64 x] 65)) wr := HK.out.nil_of HK2.out (fun i hi' => by subst hi'; simp only [size_alloc0]; omega)
   have m0 := (PSG.out _ KW).1
   have KWw := ((Kept.refl Nil w).alloc (.cells #[.slice (some ⟨g, 0, none⟩) n c, .int .i64 u, .int .i64 x] 65)).trans KW
   by_cases hlt : k < n
   ·have hit : (k : Int) < (n : Int) := by omega
    have hit2 : ¬ ((n : Int) ≤ (k : Int)) := by omega
    obtain ⟨q, hq, hqc⟩ := HST.out k (by have := HNM.out; omega)
    have d0 : wr.cell? ⟨g, k * 6, none⟩ = some (.int .i64 q.k) := (KWw.cell (p := ⟨g, k * 6, none⟩) hg (fun hx => hx)).trans (hqc 0 (by omega))
    have HKN : ∀ ed', Hid (Kept (fun i => i = b) wc (wr.setCell ⟨b, 2, none⟩ (.bool ed'))) := fun ed' => HK2.out.setCell (p := ⟨b, 2, none⟩) (Or.inl rfl) _
    have HBN : ∀ ed', Hid (Blk (wr.setCell ⟨b, 2, none⟩ (.bool ed')) b (enC u fo ed' cl mo mp (.pointer none) (.slice none 0 0)) 141) := fun ed' => HB2.out.setCell 2 _
    have HKN := hid HKN
    have HBN := hid HBN
    clear hq hqc KW KWw HB2 HK2
    cases ed with
    | true =>
     go_wp2_with fail
     go_roundg (n - (k + 1))
     case measure => omega
     case rel => exact ⟨k + 1, true, by simp, by omega, rfl, HBN.out _, HKN.out _⟩
    | false =>
     by_cases k2 : q.k = 2
     ·have hq2 : (q.k == 2) = true := by simp [k2]
      clear k2
      go_wp2_with fail
      go_roundg (n - (k + 1))
      case measure => omega
      case rel => exact ⟨k + 1, true, by simp, by omega, rfl, HBN.out _, HKN.out _⟩
     ·have hq2 : (q.k == 2) = false := by simp [k2]
      clear k2
      go_wp2_with fail
      go_roundg (n - (k + 1))
      case measure => omega
      case rel => exact ⟨k + 1, false, by simp, by omega, rfl, HBN.out _, HKN.out _⟩
   ·have hk' : k = n := by omega
    subst hk'
    have hit : ¬ ((k : Int) < (k : Int)) := by omega
    have hM2 := ownsMap_kept HM.out HK2.out hmb
    have s2 := HK2.out.size
    have F := hid (begin_none HB2.out hM2 hmb (by omega) hmo)
    have KF := hid KWw
    clear hM2 HB2 KW
    go_wp2_with fail
    refine (F.out).mono ?_
    rintro e w9 ⟨rfl, k9⟩
    have K9 := hid (KF.out.nil_of k9 (fun i hi' => by omega))
    clear k9 F
    go_wp2_with fail
    go_ret
    exact ⟨_, rfl, K9.out⟩
set_option maxRecDepth 100000
theorem newCourse_rd (w : World) : Calls Tryz.prog 37 #[] w fun e w' => e = .returned (.agg #[.int .i64 0, .int .i64 (-1)]) ∧ Kept Nil w w' := by
 go_enter Tryz.func37, Tryz.ntmps37
 go_wp2_with fail
 exact bodyPost_ret (v := .agg #[.int .i64 0, .int .i64 (-1)]) (by simp [results, Tryz.results37, go_sem]) rfl ⟨rfl, (Kept.refl Nil w).alloc _⟩
def FlS (w : World) (ao : Option Addr) (n c : Nat) (u x o1 o2 o3 : Int) (w' : World) : Prop := MvS w.heap.size ao n c u x w' ∧ w'.cell? ⟨w.heap.size + 1, 0, none⟩ = some (.int .i64 o1) ∧ w'.cell? ⟨w.heap.size + 1, 1, none⟩ = some (.int .i64 o2) ∧ w'.cell? ⟨w.heap.size + 1, 2, none⟩ = some (.int .i64 o3)
set_option maxHeartbeats 4000000 in
theorem flowNew_rd {w : World} {lo hi base : Nat} {ao : Option Addr} {n c : Nat} {u x o1 o2 o3 : Int} {ms : List MS} (h : McAt w lo hi base (.slice ao n c) ms) (hlh : hi ≤ w.heap.size) (hnm : n = ms.length) (hne : 0 < n) (hn : n ≤ 4001) (ho2 : 2 ≤ o2) :
  Calls Tryz.prog 16 #[.agg #[.slice ao n c, .int .i64 u, .int .i64 x], .agg #[.int .i64 o1, .int .i64 o2, .int .i64 o3]] w (PtrP w) := by
 have B0 := (Blk.new w #[.slice ao n c, .int .i64 u, .int .i64 x] 65).alloc (.cells #[.int .i64 o1, .int .i64 o2, .int .i64 o3] 23)
 have B1 := Blk.new (w.alloc (.cells #[.slice ao n c, .int .i64 u, .int .i64 x] 65)) #[.int .i64 o1, .int .i64 o2, .int .i64 o3] 23
 simp only [size_alloc0] at B1
 have PSG : Hid (∀ W, Kept Nil ((w.alloc (.cells #[.slice ao n c, .int .i64 u, .int .i64 x] 65)).alloc (.cells #[.int .i64 o1, .int .i64 o2, .int .i64 o3] 23)) W → FlS w ao n c u x o1 o2 o3 W) := fun W k => ⟨MvS.of (B0.kept k (fun hx => hx)), (B1.kept k (fun hx => hx)).cell 0, (B1.kept k (fun hx => hx)).cell 1, (B1.kept k (fun hx => hx)).cell 2⟩
 have K00 : Hid (Kept Nil w ((w.alloc (.cells #[.slice ao n c, .int .i64 u, .int .i64 x] 65)).alloc (.cells #[.int .i64 o1, .int .i64 o2, .int .i64 o3] 23))) := ((Kept.refl Nil w).alloc _).alloc _
 have HT : Hid (∀ W, Calls Tryz.prog 38 #[.agg #[.slice ao n c, .int .i64 u, .int .i64 x]] W (PtrP W)) := fun W => hNewEngine_rd hn
 have HM : Hid (∀ W, Kept Nil w W → Calls Tryz.prog 39 #[.agg #[.slice ao n c, .int .i64 u, .int .i64 x], .int .i64 o2] W (PtrP W)) := fun W k => kNewEngine_rd (h.kept k (fun _ _ _ hx => hx) (fun _ _ hx => hx) hlh) (by have := k.size; omega) hnm hne hn ho2
 clear B0 B1 h hnm
 go_enter Tryz.func16, Tryz.ntmps16
 go_wp2_with fail
 go_cut [5] (fun s5 wx => ∃ (F : Nat) (cs : Array Value), s5 = .pointer (some ⟨F, 0, none⟩) ∧ Hid (Blk wx F cs 97) ∧ Hid (∃ v, cs[3]? = some v) ∧ w.heap.size + 2 ≤ F ∧ Hid (Kept Nil ((w.alloc (.cells #[.slice ao n c, .int .i64 u, .int .i64 x] 65)).alloc (.cells #[.int .i64 o1, .int .i64 o2, .int .i64 o3] 23)) wx))
 case first =>
  refine wp_region_last (S := FlS w ao n c u x o1 o2 o3) 6 (by kernel_rfl) rfl rfl rfl (by kernel_rfl) (by kernel_rfl) ?_
  have hS0 := PSG.out (((w.alloc (.cells #[.slice ao n c, .int .i64 u, .int .i64 x] 65)).alloc (.cells #[.int .i64 o1, .int .i64 o2, .int .i64 o3] 23)).drew) (Kept.refl _ _).drew
  refine takeH 0 6 (.agg #[.slice ao n c, .int .i64 u, .int .i64 x]) rfl rfl (by kernel_rfl) (by kernel_rfl) (by kernel_rfl) (fun _ _ _ h => h) (Or.inl ⟨by rfl, fun W hSW => by obtain ⟨⟨s0, s1, s2⟩, s3, s4, s5⟩ := hSW; go_simp⟩) hS0 ?_
  refine takeH 2 8 (.pointer (some ⟨w.heap.size + 1, 2, none⟩)) rfl rfl (by kernel_rfl) (by kernel_rfl) (by kernel_rfl) (fun _ _ _ h => h) (Or.inl ⟨by rfl, fun W hSW => by obtain ⟨⟨s0, s1, s2⟩, s3, s4, s5⟩ := hSW; go_simp⟩) hS0 ?_
  refine takeH 3 9 (.int .i64 o3) rfl rfl (by kernel_rfl) (by kernel_rfl) (by kernel_rfl) (fun _ _ _ h => h) (Or.inl ⟨by rfl, fun W hSW => by obtain ⟨⟨s0, s1, s2⟩, s3, s4, s5⟩ := hSW; go_simp⟩) hS0 ?_
  simp only [Act.put, List.setIfInBounds_toArray, List.set_cons_zero, List.set_cons_succ]
  refine wpAnyH_ready (rs := [1]) (by kernel_rfl) (by simp) (AllReadyH.cons rfl (fun K hK => ?_) AllReadyH.nil)
  go_simp
  refine (newCourse_rd _).mono ?_
  rintro e w5 ⟨rfl, k5⟩
  dsimp only
  have K5 := hid (((Kept.refl Nil ((w.alloc (.cells #[.slice ao n c, .int .i64 u, .int .i64 x] 65)).alloc (.cells #[.int .i64 o1, .int .i64 o2, .int .i64 o3] 23))).drew).trans k5)
  have s5 := K5.out.size
  simp only [size_alloc0] at s5
  refine hK.out _ _ (PSG.out _ K5.out) (fun _ => ?_)
  clear hK K k5
  refine wpAnyH_ready (rs := [4]) (by kernel_rfl) (by simp) (AllReadyH.cons rfl (fun K hK => ?_) AllReadyH.nil)
  go_simp
  refine hK.out _ _ (PSG.out _ K5.out) (fun _ => ?_)
  clear hK K
  refine wpAnyH_ready (rs := [5]) (by kernel_rfl) (by simp) (AllReadyH.cons rfl (fun K hK => ?_) AllReadyH.nil)
  go_simp
  refine hK.out _ _ (PSG.out _ (K5.out.alloc _)) (fun _ => ?_)
  clear hK K
  refine wpAnyH_done (by kernel_rfl) ?_ _
  unfold thenLast
  simp only [List.getElem_toArray, List.getElem_cons_succ, List.getElem_cons_zero]
  go_simp
  go_wp2_with fail
  go_meet
  case rel => exact ⟨_, _, rfl, hid (Blk.new _ _ _), hid ⟨_, rfl⟩, by omega, hid (K5.out.alloc _)⟩
 case rest =>
  obtain ⟨F, cs, rfl, HB, HV, hF, HK⟩ := hcut
  obtain ⟨v3, hv3⟩ := HV.out
  have fl := PSG.out _ HK.out
  obtain ⟨⟨s0, s1, s2⟩, s3, s4, s5⟩ := fl
  have KW := hid (K00.out.trans HK.out)
  clear HV
  by_cases he : o1 = 1
  ·have hz : (o1 == 1) = true := by simp [he]
   clear he
   go_wp2_with fail
   refine (HT.out _).mono ?_
   rintro e w6 ⟨p, rfl, k6⟩
   have b6 := HB.out.kept k6 (fun hx => hx)
   have c3 : w6.cell? ⟨F, 3, none⟩ = some v3 := (b6.cell 3).trans hv3
   have f3 : w6.frozen? ⟨F, 3, none⟩ = false := b6.frozen 3
   have K6 := hid (KW.out.trans k6)
   clear b6 k6
   go_wp2_with fail
   go_ret
   exact ⟨_, rfl, K6.out.setCell (p := ⟨F, 3, none⟩) (Or.inr (by show _ ≤ F; omega)) _⟩
  ·have hz : (o1 == 1) = false := by simp [he]
   clear he
   go_wp2_with fail
   refine (HM.out _ KW.out).mono ?_
   rintro e w6 ⟨p, rfl, k6⟩
   have b6 := HB.out.kept k6 (fun hx => hx)
   have c3 : w6.cell? ⟨F, 3, none⟩ = some v3 := (b6.cell 3).trans hv3
   have f3 : w6.frozen? ⟨F, 3, none⟩ = false := b6.frozen 3
   have K6 := hid (KW.out.trans k6)
   clear b6 k6
   go_wp2_with fail
   go_ret
   exact ⟨_, rfl, K6.out.setCell (p := ⟨F, 3, none⟩) (Or.inr (by show _ ≤ F; omega)) _⟩
end Go.Proofs.YtfollffpibmgcaaGreatDoor
