/- The calls on a Stream that Open did not make. The leaves of the reference (package trawlref): tail, need, digit, small, among: each returns what its Go text says, whatever its argument; the world is as it was. -/
import Derived.Test.YtfollffpibmgcaaGreatDoorP30
import Derived.Test.YtfollffpibmgcaaGreatDoorP01
import Derived.Lib.Strings
set_option linter.unusedVariables false
set_option maxRecDepth 100000
namespace Go.Proofs.YtfollffpibmgcaaGreatDoor
open Go.RowKit Go.Maps
set_option maxRecDepth 100000
theorem eqIn_left (W : World) (d b : Nat) : (Op.equalIn (d + 1) 29 (.pointer none) (.pointer (some ⟨b, 0, none⟩))).run Tryz.prog W = .ok false W := by
 have h : Tryz.prog.underlying 29 = some (.pointer 44) := Tryz.underlying29
 simp [Op.equalIn, run_underlying h]
theorem eq_left (W : World) (b : Nat) : (Op.equal 29 (.pointer none) (.pointer (some ⟨b, 0, none⟩))).run Tryz.prog W = .ok false W := eqIn_left W 9999 b
theorem neq_left (W : World) (b : Nat) : (binOp .neq 29 (.pointer none) (.pointer (some ⟨b, 0, none⟩))).run Tryz.prog W = .ok (.bool true) W := by
 simp only [binOp]
 simp [eq_left W b]
set_option maxHeartbeats 1000000 in
theorem guardE_nil {w : World} (fn : Value) : Calls Tryz.prog 23 #[.pointer none, fn] w fun e w' => e = .returned (.tuple #[.slice none 0 0, .int .i64 10]) ∧ Kept Nil w w' := by
 have K0 : Kept Nil w (((w.alloc (.cells #[.pointer none] 29)).alloc (.cells #[.slice none 0 0] 45)).alloc (.cells #[.int .i64 0] 30)) := (((Kept.refl Nil w).alloc _).alloc _).alloc _
 have L0 : Blk (((w.alloc (.cells #[.pointer none] 29)).alloc (.cells #[.slice none 0 0] 45)).alloc (.cells #[.int .i64 0] 30)) w.heap.size #[.pointer none] 29 := ((Blk.new w #[.pointer none] 29).alloc _).alloc _
 have L1 : Blk (((w.alloc (.cells #[.pointer none] 29)).alloc (.cells #[.slice none 0 0] 45)).alloc (.cells #[.int .i64 0] 30)) (w.heap.size + 1) #[.slice none 0 0] 45 := (Blk.new2 _ _ _ _ (by simp)).alloc _
 have L2 : Blk (((w.alloc (.cells #[.pointer none] 29)).alloc (.cells #[.slice none 0 0] 45)).alloc (.cells #[.int .i64 0] 30)) (w.heap.size + 1 + 1) #[.int .i64 0] 30 := Blk.new2 _ _ _ _ (by simp)
 have HW := hid (show (((w.alloc (.cells #[.pointer none] 29)).alloc (.cells #[.slice none 0 0] 45)).alloc (.cells #[.int .i64 0] 30)) = (((w.alloc (.cells #[.pointer none] 29)).alloc (.cells #[.slice none 0 0] 45)).alloc (.cells #[.int .i64 0] 30)) from rfl)
 go_enter Tryz.func23, Tryz.ntmps23
 go_wp2_with fail
 clear HW
 generalize (((w.alloc (.cells #[.pointer none] 29)).alloc (.cells #[.slice none 0 0] 45)).alloc (.cells #[.int .i64 0] 30)) = W at *
 have d0 : W.cell? ⟨w.heap.size, 0, none⟩ = some (.pointer none) := L0.cell 0
 have d1 : W.cell? ⟨w.heap.size + 1, 0, none⟩ = some (.slice none 0 0) := L1.cell 0
 have d2 : W.cell? ⟨w.heap.size + 1 + 1, 0, none⟩ = some (.int .i64 0) := L2.cell 0
 have f1 : W.frozen? ⟨w.heap.size + 1, 0, none⟩ = false := L1.frozen 0
 have f2 : W.frozen? ⟨w.heap.size + 1 + 1, 0, none⟩ = false := L2.frozen 0
 have KK := hid K0
 have HL := hid (And.intro L1 L2)
 clear K0 L0 L1 L2
 go_big_quiet (fail)
 go_wp2_with fail
 have B1 := ((show Blk (W.drewN nq) _ _ _ from HL.out.1).setCell 0 (.slice none 0 0)).setCell_other (p := ⟨w.heap.size + 1 + 1, 0, none⟩) (show w.heap.size + 1 ≠ w.heap.size + 1 + 1 by omega) (.int .i64 10)
 have B2 := ((show Blk (W.drewN nq) _ _ _ from HL.out.2).setCell_other (p := ⟨w.heap.size + 1, 0, none⟩) (show w.heap.size + 1 + 1 ≠ w.heap.size + 1 by omega) (.slice none 0 0)).setCell 0 (.int .i64 10)
 have r1 := B1.cell 0
 have r2 := B2.cell 0
 exact bodyPost_ret (v := .tuple #[.slice none 0 0, .int .i64 10]) (by simp [results, Tryz.results23, go_sem, r1, r2]) rfl ⟨rfl, (((KK.out.drewN _).setCell (p := ⟨w.heap.size + 1, 0, none⟩) (Or.inr (by show _ ≤ w.heap.size + 1; omega)) _).setCell (p := ⟨w.heap.size + 1 + 1, 0, none⟩) (Or.inr (by show _ ≤ w.heap.size + 1 + 1; omega)) _)⟩
set_option maxHeartbeats 1000000 in
theorem guardE_own {w : World} {b : Nat} (h : Blk w b #[.pointer none, .pointer none] 44) (fn : Value) : Calls Tryz.prog 23 #[.pointer (some ⟨b, 0, none⟩), fn] w fun e w' => e = .returned (.tuple #[.slice none 0 0, .int .i64 10]) ∧ Kept Nil w w' := by
 have K0 : Kept Nil w (((w.alloc (.cells #[.pointer (some ⟨b, 0, none⟩)] 29)).alloc (.cells #[.slice none 0 0] 45)).alloc (.cells #[.int .i64 0] 30)) := (((Kept.refl Nil w).alloc _).alloc _).alloc _
 have L0 : Blk (((w.alloc (.cells #[.pointer (some ⟨b, 0, none⟩)] 29)).alloc (.cells #[.slice none 0 0] 45)).alloc (.cells #[.int .i64 0] 30)) w.heap.size #[.pointer (some ⟨b, 0, none⟩)] 29 := ((Blk.new w #[.pointer (some ⟨b, 0, none⟩)] 29).alloc _).alloc _
 have L1 : Blk (((w.alloc (.cells #[.pointer (some ⟨b, 0, none⟩)] 29)).alloc (.cells #[.slice none 0 0] 45)).alloc (.cells #[.int .i64 0] 30)) (w.heap.size + 1) #[.slice none 0 0] 45 := (Blk.new2 _ _ _ _ (by simp)).alloc _
 have L2 : Blk (((w.alloc (.cells #[.pointer (some ⟨b, 0, none⟩)] 29)).alloc (.cells #[.slice none 0 0] 45)).alloc (.cells #[.int .i64 0] 30)) (w.heap.size + 1 + 1) #[.int .i64 0] 30 := Blk.new2 _ _ _ _ (by simp)
 have HW := hid (show (((w.alloc (.cells #[.pointer (some ⟨b, 0, none⟩)] 29)).alloc (.cells #[.slice none 0 0] 45)).alloc (.cells #[.int .i64 0] 30)) = (((w.alloc (.cells #[.pointer (some ⟨b, 0, none⟩)] 29)).alloc (.cells #[.slice none 0 0] 45)).alloc (.cells #[.int .i64 0] 30)) from rfl)
 go_enter Tryz.func23, Tryz.ntmps23
 go_wp2_with fail
 clear HW
 generalize (((w.alloc (.cells #[.pointer (some ⟨b, 0, none⟩)] 29)).alloc (.cells #[.slice none 0 0] 45)).alloc (.cells #[.int .i64 0] 30)) = W at *
 have c0 : W.cell? ⟨b, 0, none⟩ = some (.pointer none) := (h.kept K0 (fun hx => hx)).cell 0
 have c1 : W.cell? ⟨b, 1, none⟩ = some (.pointer none) := (h.kept K0 (fun hx => hx)).cell 1
 clear h
 have hq := fun W => neq_left W b
 have d0 : W.cell? ⟨w.heap.size, 0, none⟩ = some (.pointer (some ⟨b, 0, none⟩)) := L0.cell 0
 have d1 : W.cell? ⟨w.heap.size + 1, 0, none⟩ = some (.slice none 0 0) := L1.cell 0
 have d2 : W.cell? ⟨w.heap.size + 1 + 1, 0, none⟩ = some (.int .i64 0) := L2.cell 0
 have f1 : W.frozen? ⟨w.heap.size + 1, 0, none⟩ = false := L1.frozen 0
 have f2 : W.frozen? ⟨w.heap.size + 1 + 1, 0, none⟩ = false := L2.frozen 0
 have KK := hid K0
 have HL := hid (And.intro L1 L2)
 clear K0 L0 L1 L2
 go_big_quiet (fail)
 go_wp2_with fail
 have B1 := ((show Blk (W.drewN nq) _ _ _ from HL.out.1).setCell 0 (.slice none 0 0)).setCell_other (p := ⟨w.heap.size + 1 + 1, 0, none⟩) (show w.heap.size + 1 ≠ w.heap.size + 1 + 1 by omega) (.int .i64 10)
 have B2 := ((show Blk (W.drewN nq) _ _ _ from HL.out.2).setCell_other (p := ⟨w.heap.size + 1, 0, none⟩) (show w.heap.size + 1 + 1 ≠ w.heap.size + 1 by omega) (.slice none 0 0)).setCell 0 (.int .i64 10)
 have r1 := B1.cell 0
 have r2 := B2.cell 0
 exact bodyPost_ret (v := .tuple #[.slice none 0 0, .int .i64 10]) (by simp [results, Tryz.results23, go_sem, r1, r2]) rfl ⟨rfl, (((KK.out.drewN _).setCell (p := ⟨w.heap.size + 1, 0, none⟩) (Or.inr (by show _ ≤ w.heap.size + 1; omega)) _).setCell (p := ⟨w.heap.size + 1 + 1, 0, none⟩) (Or.inr (by show _ ≤ w.heap.size + 1 + 1; omega)) _)⟩
set_option maxHeartbeats 1000000 in
theorem guardI_nil {w : World} (fn : Value) : Calls Tryz.prog 28 #[.pointer none, fn] w fun e w' => e = .returned (.tuple #[.int .i64 0, .int .i64 10]) ∧ Kept Nil w w' := by
 have K0 : Kept Nil w (((w.alloc (.cells #[.pointer none] 29)).alloc (.cells #[.int .i64 0] 3)).alloc (.cells #[.int .i64 0] 30)) := (((Kept.refl Nil w).alloc _).alloc _).alloc _
 have L0 : Blk (((w.alloc (.cells #[.pointer none] 29)).alloc (.cells #[.int .i64 0] 3)).alloc (.cells #[.int .i64 0] 30)) w.heap.size #[.pointer none] 29 := ((Blk.new w #[.pointer none] 29).alloc _).alloc _
 have L1 : Blk (((w.alloc (.cells #[.pointer none] 29)).alloc (.cells #[.int .i64 0] 3)).alloc (.cells #[.int .i64 0] 30)) (w.heap.size + 1) #[.int .i64 0] 3 := (Blk.new2 _ _ _ _ (by simp)).alloc _
 have L2 : Blk (((w.alloc (.cells #[.pointer none] 29)).alloc (.cells #[.int .i64 0] 3)).alloc (.cells #[.int .i64 0] 30)) (w.heap.size + 1 + 1) #[.int .i64 0] 30 := Blk.new2 _ _ _ _ (by simp)
 have HW := hid (show (((w.alloc (.cells #[.pointer none] 29)).alloc (.cells #[.int .i64 0] 3)).alloc (.cells #[.int .i64 0] 30)) = (((w.alloc (.cells #[.pointer none] 29)).alloc (.cells #[.int .i64 0] 3)).alloc (.cells #[.int .i64 0] 30)) from rfl)
 go_enter Tryz.func28, Tryz.ntmps28
 go_wp2_with fail
 clear HW
 generalize (((w.alloc (.cells #[.pointer none] 29)).alloc (.cells #[.int .i64 0] 3)).alloc (.cells #[.int .i64 0] 30)) = W at *
 have d0 : W.cell? ⟨w.heap.size, 0, none⟩ = some (.pointer none) := L0.cell 0
 have d1 : W.cell? ⟨w.heap.size + 1, 0, none⟩ = some (.int .i64 0) := L1.cell 0
 have d2 : W.cell? ⟨w.heap.size + 1 + 1, 0, none⟩ = some (.int .i64 0) := L2.cell 0
 have f1 : W.frozen? ⟨w.heap.size + 1, 0, none⟩ = false := L1.frozen 0
 have f2 : W.frozen? ⟨w.heap.size + 1 + 1, 0, none⟩ = false := L2.frozen 0
 have KK := hid K0
 have HL := hid (And.intro L1 L2)
 clear K0 L0 L1 L2
 go_big_quiet (fail)
 go_wp2_with fail
 have B1 := ((show Blk (W.drewN nq) _ _ _ from HL.out.1).setCell 0 (.int .i64 0)).setCell_other (p := ⟨w.heap.size + 1 + 1, 0, none⟩) (show w.heap.size + 1 ≠ w.heap.size + 1 + 1 by omega) (.int .i64 10)
 have B2 := ((show Blk (W.drewN nq) _ _ _ from HL.out.2).setCell_other (p := ⟨w.heap.size + 1, 0, none⟩) (show w.heap.size + 1 + 1 ≠ w.heap.size + 1 by omega) (.int .i64 0)).setCell 0 (.int .i64 10)
 have r1 := B1.cell 0
 have r2 := B2.cell 0
 exact bodyPost_ret (v := .tuple #[.int .i64 0, .int .i64 10]) (by simp [results, Tryz.results28, go_sem, r1, r2]) rfl ⟨rfl, (((KK.out.drewN _).setCell (p := ⟨w.heap.size + 1, 0, none⟩) (Or.inr (by show _ ≤ w.heap.size + 1; omega)) _).setCell (p := ⟨w.heap.size + 1 + 1, 0, none⟩) (Or.inr (by show _ ≤ w.heap.size + 1 + 1; omega)) _)⟩
set_option maxHeartbeats 1000000 in
theorem guardI_own {w : World} {b : Nat} (h : Blk w b #[.pointer none, .pointer none] 44) (fn : Value) : Calls Tryz.prog 28 #[.pointer (some ⟨b, 0, none⟩), fn] w fun e w' => e = .returned (.tuple #[.int .i64 0, .int .i64 10]) ∧ Kept Nil w w' := by
 have K0 : Kept Nil w (((w.alloc (.cells #[.pointer (some ⟨b, 0, none⟩)] 29)).alloc (.cells #[.int .i64 0] 3)).alloc (.cells #[.int .i64 0] 30)) := (((Kept.refl Nil w).alloc _).alloc _).alloc _
 have L0 : Blk (((w.alloc (.cells #[.pointer (some ⟨b, 0, none⟩)] 29)).alloc (.cells #[.int .i64 0] 3)).alloc (.cells #[.int .i64 0] 30)) w.heap.size #[.pointer (some ⟨b, 0, none⟩)] 29 := ((Blk.new w #[.pointer (some ⟨b, 0, none⟩)] 29).alloc _).alloc _
 have L1 : Blk (((w.alloc (.cells #[.pointer (some ⟨b, 0, none⟩)] 29)).alloc (.cells #[.int .i64 0] 3)).alloc (.cells #[.int .i64 0] 30)) (w.heap.size + 1) #[.int .i64 0] 3 := (Blk.new2 _ _ _ _ (by simp)).alloc _
 have L2 : Blk (((w.alloc (.cells #[.pointer (some ⟨b, 0, none⟩)] 29)).alloc (.cells #[.int .i64 0] 3)).alloc (.cells #[.int .i64 0] 30)) (w.heap.size + 1 + 1) #[.int .i64 0] 30 := Blk.new2 _ _ _ _ (by simp)
 have HW := hid (show (((w.alloc (.cells #[.pointer (some ⟨b, 0, none⟩)] 29)).alloc (.cells #[.int .i64 0] 3)).alloc (.cells #[.int .i64 0] 30)) = (((w.alloc (.cells #[.pointer (some ⟨b, 0, none⟩)] 29)).alloc (.cells #[.int .i64 0] 3)).alloc (.cells #[.int .i64 0] 30)) from rfl)
 go_enter Tryz.func28, Tryz.ntmps28
 go_wp2_with fail
 clear HW
 generalize (((w.alloc (.cells #[.pointer (some ⟨b, 0, none⟩)] 29)).alloc (.cells #[.int .i64 0] 3)).alloc (.cells #[.int .i64 0] 30)) = W at *
 have c0 : W.cell? ⟨b, 0, none⟩ = some (.pointer none) := (h.kept K0 (fun hx => hx)).cell 0
 have c1 : W.cell? ⟨b, 1, none⟩ = some (.pointer none) := (h.kept K0 (fun hx => hx)).cell 1
 clear h
 have hq := fun W => neq_left W b
 have d0 : W.cell? ⟨w.heap.size, 0, none⟩ = some (.pointer (some ⟨b, 0, none⟩)) := L0.cell 0
 have d1 : W.cell? ⟨w.heap.size + 1, 0, none⟩ = some (.int .i64 0) := L1.cell 0
 have d2 : W.cell? ⟨w.heap.size + 1 + 1, 0, none⟩ = some (.int .i64 0) := L2.cell 0
 have f1 : W.frozen? ⟨w.heap.size + 1, 0, none⟩ = false := L1.frozen 0
 have f2 : W.frozen? ⟨w.heap.size + 1 + 1, 0, none⟩ = false := L2.frozen 0
 have KK := hid K0
 have HL := hid (And.intro L1 L2)
 clear K0 L0 L1 L2
 go_big_quiet (fail)
 go_wp2_with fail
 have B1 := ((show Blk (W.drewN nq) _ _ _ from HL.out.1).setCell 0 (.int .i64 0)).setCell_other (p := ⟨w.heap.size + 1 + 1, 0, none⟩) (show w.heap.size + 1 ≠ w.heap.size + 1 + 1 by omega) (.int .i64 10)
 have B2 := ((show Blk (W.drewN nq) _ _ _ from HL.out.2).setCell_other (p := ⟨w.heap.size + 1, 0, none⟩) (show w.heap.size + 1 + 1 ≠ w.heap.size + 1 by omega) (.int .i64 0)).setCell 0 (.int .i64 10)
 have r1 := B1.cell 0
 have r2 := B2.cell 0
 exact bodyPost_ret (v := .tuple #[.int .i64 0, .int .i64 10]) (by simp [results, Tryz.results28, go_sem, r1, r2]) rfl ⟨rfl, (((KK.out.drewN _).setCell (p := ⟨w.heap.size + 1, 0, none⟩) (Or.inr (by show _ ≤ w.heap.size + 1; omega)) _).setCell (p := ⟨w.heap.size + 1 + 1, 0, none⟩) (Or.inr (by show _ ≤ w.heap.size + 1 + 1; omega)) _)⟩
set_option maxHeartbeats 1000000 in
theorem s_feed_nil {w : World} : Calls Tryz.prog 10 #[.pointer none, .slice none 0 0] w fun e w' => e = .returned (.tuple #[.slice none 0 0, .int .i64 10]) ∧ Kept Nil w w' := by
 go_enter Tryz.func10, Tryz.ntmps10
 go_wp2_with fail
 refine (guardE_nil _).mono ?_
 rintro e w1 ⟨rfl, k1⟩
 have K1 := hid k1
 clear k1
 go_wp2_with fail
 go_ret2
 exact ⟨rfl, Kept.trans (by repeat first | exact Kept.refl _ _ | apply Kept.alloc | apply Kept.drew | apply Kept.drewN) K1.out⟩
set_option maxHeartbeats 1000000 in
theorem s_feed_own {w : World} {b : Nat} (h : Blk w b #[.pointer none, .pointer none] 44) : Calls Tryz.prog 10 #[.pointer (some ⟨b, 0, none⟩), .slice none 0 0] w fun e w' => e = .returned (.tuple #[.slice none 0 0, .int .i64 10]) ∧ Kept Nil w w' := by
 have HB : Hid (∀ W, Kept Nil w W → Blk W b #[.pointer none, .pointer none] 44) := fun W k => h.kept k (fun hx => hx)
 clear h
 go_enter Tryz.func10, Tryz.ntmps10
 go_wp2_with fail
 refine (guardE_own (HB.out _ (by repeat first | exact Kept.refl _ _ | apply Kept.alloc | apply Kept.drew | apply Kept.drewN)) _).mono ?_
 rintro e w1 ⟨rfl, k1⟩
 have K1 := hid k1
 clear k1
 go_wp2_with fail
 go_ret2
 exact ⟨rfl, Kept.trans (by repeat first | exact Kept.refl _ _ | apply Kept.alloc | apply Kept.drew | apply Kept.drewN) K1.out⟩
set_option maxHeartbeats 1000000 in
theorem s_close_nil {w : World} : Calls Tryz.prog 11 #[.pointer none] w fun e w' => e = .returned (.tuple #[.slice none 0 0, .int .i64 10]) ∧ Kept Nil w w' := by
 go_enter Tryz.func11, Tryz.ntmps11
 go_wp2_with fail
 refine (guardE_nil _).mono ?_
 rintro e w1 ⟨rfl, k1⟩
 have K1 := hid k1
 clear k1
 go_wp2_with fail
 go_ret2
 exact ⟨rfl, Kept.trans (by repeat first | exact Kept.refl _ _ | apply Kept.alloc | apply Kept.drew | apply Kept.drewN) K1.out⟩
set_option maxHeartbeats 1000000 in
theorem s_close_own {w : World} {b : Nat} (h : Blk w b #[.pointer none, .pointer none] 44) : Calls Tryz.prog 11 #[.pointer (some ⟨b, 0, none⟩)] w fun e w' => e = .returned (.tuple #[.slice none 0 0, .int .i64 10]) ∧ Kept Nil w w' := by
 have HB : Hid (∀ W, Kept Nil w W → Blk W b #[.pointer none, .pointer none] 44) := fun W k => h.kept k (fun hx => hx)
 clear h
 go_enter Tryz.func11, Tryz.ntmps11
 go_wp2_with fail
 refine (guardE_own (HB.out _ (by repeat first | exact Kept.refl _ _ | apply Kept.alloc | apply Kept.drew | apply Kept.drewN)) _).mono ?_
 rintro e w1 ⟨rfl, k1⟩
 have K1 := hid k1
 clear k1
 go_wp2_with fail
 go_ret2
 exact ⟨rfl, Kept.trans (by repeat first | exact Kept.refl _ _ | apply Kept.alloc | apply Kept.drew | apply Kept.drewN) K1.out⟩
set_option maxHeartbeats 1000000 in
theorem s_kept_nil {w : World} : Calls Tryz.prog 12 #[.pointer none] w fun e w' => e = .returned (.int .i64 0) ∧ Kept Nil w w' := by
 go_enter Tryz.func12, Tryz.ntmps12
 go_wp2_with fail
 refine (guardI_nil _).mono ?_
 rintro e w1 ⟨rfl, k1⟩
 have K1 := hid k1
 clear k1
 go_wp2_with fail
 go_ret
 exact ⟨rfl, Kept.trans (by repeat first | exact Kept.refl _ _ | apply Kept.alloc | apply Kept.drew | apply Kept.drewN) K1.out⟩
set_option maxHeartbeats 1000000 in
theorem s_kept_own {w : World} {b : Nat} (h : Blk w b #[.pointer none, .pointer none] 44) : Calls Tryz.prog 12 #[.pointer (some ⟨b, 0, none⟩)] w fun e w' => e = .returned (.int .i64 0) ∧ Kept Nil w w' := by
 have HB : Hid (∀ W, Kept Nil w W → Blk W b #[.pointer none, .pointer none] 44) := fun W k => h.kept k (fun hx => hx)
 clear h
 go_enter Tryz.func12, Tryz.ntmps12
 go_wp2_with fail
 refine (guardI_own (HB.out _ (by repeat first | exact Kept.refl _ _ | apply Kept.alloc | apply Kept.drew | apply Kept.drewN)) _).mono ?_
 rintro e w1 ⟨rfl, k1⟩
 have K1 := hid k1
 clear k1
 go_wp2_with fail
 go_ret
 exact ⟨rfl, Kept.trans (by repeat first | exact Kept.refl _ _ | apply Kept.alloc | apply Kept.drew | apply Kept.drewN) K1.out⟩
set_option maxHeartbeats 1000000 in
theorem s_states_nil {w : World} : Calls Tryz.prog 13 #[.pointer none] w fun e w' => e = .returned (.int .i64 0) ∧ Kept Nil w w' := by
 go_enter Tryz.func13, Tryz.ntmps13
 go_wp2_with fail
 refine (guardI_nil _).mono ?_
 rintro e w1 ⟨rfl, k1⟩
 have K1 := hid k1
 clear k1
 go_wp2_with fail
 go_ret
 exact ⟨rfl, Kept.trans (by repeat first | exact Kept.refl _ _ | apply Kept.alloc | apply Kept.drew | apply Kept.drewN) K1.out⟩
set_option maxHeartbeats 1000000 in
theorem s_states_own {w : World} {b : Nat} (h : Blk w b #[.pointer none, .pointer none] 44) : Calls Tryz.prog 13 #[.pointer (some ⟨b, 0, none⟩)] w fun e w' => e = .returned (.int .i64 0) ∧ Kept Nil w w' := by
 have HB : Hid (∀ W, Kept Nil w W → Blk W b #[.pointer none, .pointer none] 44) := fun W k => h.kept k (fun hx => hx)
 clear h
 go_enter Tryz.func13, Tryz.ntmps13
 go_wp2_with fail
 refine (guardI_own (HB.out _ (by repeat first | exact Kept.refl _ _ | apply Kept.alloc | apply Kept.drew | apply Kept.drewN)) _).mono ?_
 rintro e w1 ⟨rfl, k1⟩
 have K1 := hid k1
 clear k1
 go_wp2_with fail
 go_ret
 exact ⟨rfl, Kept.trans (by repeat first | exact Kept.refl _ _ | apply Kept.alloc | apply Kept.drew | apply Kept.drewN) K1.out⟩
theorem lnum_any (x : Int) (w : World) : Calls Tryz.prog 9 #[.int .i64 x] w fun e w' => e = .returned (.int .i64 x) ∧ w' = w := by
 go_enter Tryz.func9, Tryz.ntmps9
 go_wp2_with fail
 go_ret
 exact ⟨rfl, rfl⟩
set_option maxHeartbeats 4000000 in
theorem unmade_rd (w : World) : Calls Tryz.prog 5 #[] w fun e w' => e = .returned (.bool true) ∧ Kept Nil w w' := by
 have B0 := hid (Blk.new w #[.pointer none, .pointer none] 44)
 go_enter Tryz.func5, Tryz.ntmps5
 go_wp2_with fail
 refine (s_feed_nil).mono ?_
 rintro e w1 ⟨rfl, k1⟩
 go_wp2_with fail
 refine (s_close_nil).mono ?_
 rintro e w2 ⟨rfl, k2⟩
 have b2 := hid (B0.out.kept (k1.trans k2) (fun hx => hx))
 go_wp2_with fail
 refine (s_feed_own b2.out).mono ?_
 rintro e w3 ⟨rfl, k3⟩
 have b3 := hid (b2.out.kept k3 (fun hx => hx))
 go_wp2_with fail
 refine (s_close_own b3.out).mono ?_
 rintro e w4 ⟨rfl, k4⟩
 go_wp2_with fail
 refine (s_kept_nil).mono ?_
 rintro e w5 ⟨rfl, k5⟩
 go_wp2_with fail
 refine (s_states_nil).mono ?_
 rintro e w6 ⟨rfl, k6⟩
 have b6 := hid (b3.out.kept ((k4.trans k5).trans k6) (fun hx => hx))
 go_wp2_with fail
 refine (s_kept_own b6.out).mono ?_
 rintro e w7 ⟨rfl, k7⟩
 have b7 := hid (b6.out.kept k7 (fun hx => hx))
 go_wp2_with fail
 refine (s_states_own b7.out).mono ?_
 rintro e w8 ⟨rfl, k8⟩
 have KF := hid ((((((((((Kept.refl Nil w).alloc (.cells #[.pointer none, .pointer none] 44)).trans k1).trans k2).trans k3).trans k4).trans k5).trans k6).trans k7).trans k8)
 clear k1 k2 k3 k4 k5 k6 k7 k8 B0 b2 b3 b6 b7
 go_wp2_with (first | (go_at_call 9; refine (lnum_any _ _).mono ?_; rintro e w' ⟨rfl, rfl⟩) | fail)
 go_ret
 exact ⟨rfl, KF.out⟩
end Go.Proofs.YtfollffpibmgcaaGreatDoor
namespace Go.Proofs.YtfollffpibmgcaaGreatDoor
open Go.RowKit
def needOf (c : Int) : Int × Int × Int :=
 if c < 128 then (1, 0, 0) else if 194 ≤ c ∧ c < 224 then (2, 128, 191) else if c = 224 then (3, 160, 191) else if c = 237 then (3, 128, 159)
 else if 224 < c ∧ c < 240 then (3, 128, 191) else if c = 240 then (4, 144, 191) else if 240 < c ∧ c < 244 then (4, 128, 191) else if c = 244 then (4, 128, 143) else (0, 0, 0)
theorem need_ret {c a b d : Int} (h : needOf c = (a, b, d)) : Ending.returned (.tuple #[.int .i64 a, .int .u8 b, .int .u8 d]) = Ending.returned (.tuple #[.int .i64 (needOf c).1, .int .u8 (needOf c).2.1, .int .u8 (needOf c).2.2]) := by rw [h]
theorem need_any (c : Int) (w : World) :
  Calls Tryz.prog 66 #[.int .u8 c] w fun e w' => e = .returned (.tuple #[.int .i64 (needOf c).1, .int .u8 (needOf c).2.1, .int .u8 (needOf c).2.2]) ∧ w' = w := by
 go_enter Tryz.func66, Tryz.ntmps66
 go_wp2
 all_goals go_ret3
 all_goals refine ⟨need_ret ?_, rfl⟩
 all_goals ((try simp only [beq_iff_eq, beq_eq_false_iff_ne, ne_eq] at *); unfold needOf; repeat (first | rw [if_pos (by omega)] | rw [if_neg (by omega)]))
def tailOf (c : Int) : Bool := decide (128 ≤ c ∧ c < 192)
theorem tail_any (c : Int) (w : World) :
  Calls Tryz.prog 67 #[.int .u8 c] w fun e w' => e = .returned (.bool (tailOf c)) ∧ w' = w := by
 go_enter Tryz.func67, Tryz.ntmps67
 go_wp2
 all_goals go_ret
 all_goals refine ⟨?_, rfl⟩
 all_goals (congr 2; simp [tailOf]; omega)
def digitOf (c : Int) : Bool := decide (48 ≤ c ∧ c ≤ 57)
theorem digit_any (c : Int) (w : World) :
  Calls Tryz.prog 98 #[.int .i64 c] w fun e w' => e = .returned (.bool (digitOf c)) ∧ w' = w := by
 go_enter Tryz.func98, Tryz.ntmps98
 go_wp2
 all_goals go_ret
 all_goals refine ⟨?_, rfl⟩
 all_goals (congr 2; simp [digitOf]; omega)
def smallOf (c : Int) : Bool := decide (97 ≤ c ∧ c ≤ 122)
theorem small_any (c : Int) (w : World) :
  Calls Tryz.prog 97 #[.int .i64 c] w fun e w' => e = .returned (.bool (smallOf c)) ∧ w' = w := by
 go_enter Tryz.func97, Tryz.ntmps97
 go_wp2
 all_goals go_ret
 all_goals refine ⟨?_, rfl⟩
 all_goals (congr 2; simp [smallOf]; omega)
theorem wrap64_byte (b : UInt8) : wrap64 (b.toNat : Int) = b.toNat := by have := b.toNat_lt; unfold wrap64; omega
theorem inSet_take (l : List UInt8) (r : Int) (k : Nat) (hk : k < l.length) : inSet (l.take (k + 1)) r = (inSet (l.take k) r || ((l[k].toNat : Int) == r)) := by
 unfold inSet
 rw [List.take_succ_eq_append_getElem hk, List.any_append]
 simp only [List.any_cons, List.any_nil, Bool.or_false]
theorem inSet_hit (l : List UInt8) (r : Int) (k : Nat) (hk : k < l.length) (h : ((l[k].toNat : Int) == r) = true) : inSet l r = true := by
 unfold inSet
 rw [List.any_eq_true]
 exact ⟨l[k], List.getElem_mem hk, h⟩
theorem among_any (s : ByteArray) (r : Int) (w : World) (hs : s.size ≤ 1000) :
  Calls Tryz.prog 70 #[.string s, .int .i64 r] w fun e w' => e = .returned (.bool (inSet s.data.toList r)) ∧ w' = w := by
 go_enter Tryz.func70, Tryz.ntmps70
 go_wp2
 go_loop [5] (fun i => ∃ k : Nat, k ≤ s.size ∧ i = .int .i64 k ∧ inSet (s.data.toList.take k) r = false) (fun i => s.size - (intOf i).toNat)
 case atStart => exact ⟨0, Nat.zero_le _, rfl, by simp [inSet]⟩
 case round =>
  obtain ⟨k, hk, rfl, hno⟩ := hrel
  have HN : Hid (inSet (s.data.toList.take k) r = false) := hno
  clear hno
  by_cases hlt : k < s.size
  ·have hl : k < s.data.toList.length := by simpa using hlt
   have he : s.data.toList[k] = s[k] := rfl
   cases hc : ((s[k].toNat : Int) == r)
   ·have hc' : (wrap64 (s[k].toNat : Int) == r) = false := by rw [wrap64_byte]; exact hc
    go_wp2
    go_round
    case rel => exact ⟨k + 1, by omega, by go_num, by rw [inSet_take _ _ _ hl, HN.out, he, hc]; rfl⟩
    case measure => simp [intOf]; omega
   ·have hh := inSet_hit s.data.toList r k hl hc
    have HH : Hid (inSet s.data.toList r = true) := hh
    clear hh
    have hc' : (wrap64 (s[k].toNat : Int) == r) = true := by rw [wrap64_byte]; exact hc
    go_wp2
    go_ret
    exact ⟨by rw [HH.out]; rfl, rfl⟩
  ·go_wp2
   go_ret
   have hx := HN.out
   rw [List.take_of_length_le (by simp; omega)] at hx
   exact ⟨by rw [hx]; rfl, rfl⟩
end Go.Proofs.YtfollffpibmgcaaGreatDoor
