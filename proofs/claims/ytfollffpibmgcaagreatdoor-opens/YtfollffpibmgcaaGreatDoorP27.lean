/- The library's sort of runes, second part: the pivot, the heap. The library's sort of runes, third part: heap sort, partitions. -/
import Derived.Test.YtfollffpibmgcaaGreatDoorP26
import Derived.Deep.DeepCutAuto
import Derived.Deep.CutBlock
set_option linter.unusedVariables false
set_option maxRecDepth 100000
namespace Go.Proofs.YtfollffpibmgcaaGreatDoor
open Go.RowKit
set_option maxRecDepth 100000
theorem med_int {w : World} {g off n sz cap s m : Nat} {a b c : Int} (hR : RowOk w g off n sz) (hS : Blk w s #[.int .i64 (m : Int)] 3) (hgs : g ≠ s) (ha : 0 ≤ a ∧ a < n) (hb : 0 ≤ b ∧ b < n) (hc : 0 ≤ c ∧ c < n) (hm : m ≤ 50) (hn : n < 4611686018427387904) :
  Calls Tryz.prog 188 #[.slice (some ⟨g, off, none⟩) n cap, .int .i64 a, .int .i64 b, .int .i64 c, .pointer (some ⟨s, 0, none⟩)] w fun e w' => ∃ (x : Int) (m' : Nat), e = .returned (.int .i64 x) ∧ (x = a ∨ x = b ∨ x = c) ∧ m' ≤ m + 3 ∧ SwP w s m w' m' := by
 obtain ⟨a', rfl⟩ : ∃ k : Nat, a = k := ⟨a.toNat, by omega⟩
 obtain ⟨b', rfl⟩ : ∃ k : Nat, b = k := ⟨b.toNat, by omega⟩
 obtain ⟨c', rfl⟩ : ∃ k : Nat, c = k := ⟨c.toNat, by omega⟩
 refine (med_any hR hS hgs (by omega) (by omega) (by omega) hm hn).mono ?_
 rintro e w' ⟨x, m', rfl, h1, h2, h3⟩
 exact ⟨x, m', rfl, by omega, h2, h3⟩
theorem medadj_int {w : World} {g off n sz cap s m : Nat} {a : Int} (hR : RowOk w g off n sz) (hS : Blk w s #[.int .i64 (m : Int)] 3) (hgs : g ≠ s) (ha : 1 ≤ a ∧ a + 1 < n) (hm : m ≤ 50) (hn : n < 4611686018427387904) :
  Calls Tryz.prog 187 #[.slice (some ⟨g, off, none⟩) n cap, .int .i64 a, .pointer (some ⟨s, 0, none⟩)] w fun e w' => ∃ (x : Int) (m' : Nat), e = .returned (.int .i64 x) ∧ (a - 1 ≤ x ∧ x ≤ a + 1) ∧ m' ≤ m + 3 ∧ SwP w s m w' m' := by
 obtain ⟨a', rfl⟩ : ∃ k : Nat, a = k := ⟨a.toNat, by omega⟩
 refine (medadj_any hR hS hgs (by omega) hm hn).mono ?_
 rintro e w' ⟨x, m', rfl, h1, h2, h3⟩
 exact ⟨x, m', rfl, by omega, h2, h3⟩
set_option maxHeartbeats 2000000 in
theorem pivot_any {w : World} {g off n sz cap a b : Nat} (hR : RowOk w g off n sz) (hab : a + 12 ≤ b) (hb : b ≤ n) (hn : n < 4611686018427387904) :
  Calls Tryz.prog 151 #[.slice (some ⟨g, off, none⟩) n cap, .int .i64 (a : Int), .int .i64 (b : Int)] w fun e w' => ∃ (p : Nat) (h : Int), e = .returned (.tuple #[.int .i64 (p : Int), .int .i64 h]) ∧ (a ≤ p ∧ p < b) ∧ RwP w g off n sz w' := by
 have hgl := hR.lt
 have hgs : g ≠ w.heap.size := by omega
 have R0 := hR.kept ((Kept.refl Nil w).alloc (.cells #[.int .i64 0] 3)) (fun hx => hx)
 have B0 : Blk (w.alloc (.cells #[.int .i64 0] 3)) w.heap.size #[.int .i64 ((0 : Nat) : Int)] 3 := Blk.new w #[.int .i64 0] 3
 have PK := hid0 (And.intro R0 B0)
 have K0 : Hid (Kept (fun i => i = g) w (w.alloc (.cells #[.int .i64 0] 3))) := (Kept.refl _ w).alloc _
 have FIN : Hid (∀ (p : Int) (h : Int) (w4 : World) (m4 : Nat), ((a : Int) ≤ p ∧ p < (b : Int)) → RowOk w4 g off n sz → Kept (fun i => i = w.heap.size) (w.alloc (.cells #[.int .i64 0] 3)) w4 → (∃ (p' : Nat) (h' : Int), Ending.returned (.tuple #[.int .i64 p, .int .i64 h]) = .returned (.tuple #[.int .i64 (p' : Int), .int .i64 h']) ∧ (a ≤ p' ∧ p' < b) ∧ RwP w g off n sz w4)) := by
  intro p h w4 m4 hp hR4 hK4
  exact ⟨p.toNat, h, by rw [show ((p.toNat : Nat) : Int) = p by omega], by omega, hR4, K0.out.trans' hK4 (fun i hi hx => by omega)⟩
 clear hR R0 B0
 go_enter Tryz.func151, Tryz.ntmps151
 go_wp2_with fail
 ·refine (medadj_int PK.out.1 PK.out.2 hgs (by omega) (by omega) hn).mono ?_
  rintro e w1 ⟨x1, m1, rfl, hx1, hm1, P1⟩
  have R1 := P1.row PK.out.1 hgs
  go_wp2_with fail
  refine (medadj_int R1 P1.blk hgs (by omega) (by omega) hn).mono ?_
  rintro e w2 ⟨x2, m2, rfl, hx2, hm2, P2⟩
  have R2 := P2.row R1 hgs
  clear R1
  go_wp2_with fail
  refine (medadj_int R2 P2.blk hgs (by omega) (by omega) hn).mono ?_
  rintro e w3 ⟨x3, m3, rfl, hx3, hm3, P3⟩
  have R3 := P3.row R2 hgs
  clear R2
  go_wp2_with fail
  refine (med_int R3 P3.blk hgs (by omega) (by omega) (by omega) (by omega) hn).mono ?_
  rintro e w4 ⟨x4, m4, rfl, hx4, hm4, P4⟩
  have R4 := hid0 (P4.row R3 hgs)
  have c4 : w4.cell? ⟨w.heap.size, 0, none⟩ = some (.int .i64 (m4 : Int)) := P4.blk.cell 0
  have K4 := hid0 (((P1.kept.trans P2.kept).trans P3.kept).trans P4.kept)
  have hx : (a : Int) ≤ x4 ∧ x4 < (b : Int) := by omega
  clear R3 P1 P2 P3 P4 PK hx4 hx1 hx2 hx3
  go_wp2_with fail
  all_goals
   go_ret2
   exact FIN.out _ _ _ m4 hx R4.out K4.out
 ·refine (med_int PK.out.1 PK.out.2 hgs (by omega) (by omega) (by omega) (by omega) hn).mono ?_
  rintro e w4 ⟨x4, m4, rfl, hx4, hm4, P4⟩
  have R4 := hid0 (P4.row PK.out.1 hgs)
  have c4 : w4.cell? ⟨w.heap.size, 0, none⟩ = some (.int .i64 (m4 : Int)) := P4.blk.cell 0
  have K4 := hid0 P4.kept
  have hx : (a : Int) ≤ x4 ∧ x4 < (b : Int) := by omega
  clear P4 PK hx4
  go_wp2_with fail
  all_goals
   go_ret2
   exact FIN.out _ _ _ m4 hx R4.out K4.out
set_option maxHeartbeats 2000000 in
theorem sift_any {w : World} {g off n sz cap lo hi first : Nat} (hR : RowOk w g off n sz) (hf : first + hi ≤ n) (hn : n < 1000000000) (hlo : lo ≤ hi) :
  Calls Tryz.prog 184 #[.slice (some ⟨g, off, none⟩) n cap, .int .i64 (lo : Int), .int .i64 (hi : Int), .int .i64 (first : Int)] w fun e w' => e = .returned (.tuple #[]) ∧ RwP w g off n sz w' := by
 go_enter Tryz.func184, Tryz.ntmps184
 go_wp2_with fail
 go_loopw [8] (fun vr wr => ∃ r : Nat, vr = .int .i64 (r : Int) ∧ r ≤ hi ∧ Hid (RwP w g off n sz wr)) (fun vr _ => hi - (intOf0 vr).toNat)
 case atStart => exact ⟨lo, rfl, hlo, RwP.refl hR⟩
 case round =>
  obtain ⟨r, rfl, hr, HW⟩ := hrel
  clear hR
  obtain ⟨G, hcw, hfw⟩ := HW.out.row.fam
  by_cases h0 : hi ≤ 2 * r + 1
  ·have h0z : (hi : Int) ≤ 2 * (r : Int) + 1 := by omega
   go_wp2_with fail
   go_end0
   exact ⟨rfl, HW.out⟩
  ·have h0z : ¬ ((hi : Int) ≤ 2 * (r : Int) + 1) := by omega
   by_cases h1 : 2 * r + 2 < hi
   ·have h1z : 2 * (r : Int) + 1 + 1 < (hi : Int) := by omega
    go_wp2_with fail
    go_big_quiet (first | (go_at_call 154; refine Calls.quiet_of_same (less_any _ _ _)))
    go_wp2_with fail
    ·revert nq; intro nq1
     have HW2 := hid0 (HW.out.drewN nq1)
     have hcw2 : ∀ t, t < n → (wr.drewN nq1).cell? ⟨g, off + t, none⟩ = some (.int .i32 (G t)) := hcw
     have hfw2 : ∀ t, t < n → (wr.drewN nq1).frozen? ⟨g, off + t, none⟩ = false := hfw
     clear hcw hfw HW
     generalize wr.drewN nq1 = wr2 at hcw2 hfw2 HW2 ⊢
     have hcw := hcw2
     have hfw := hfw2
     clear hcw2 hfw2
     go_big_quiet (first | (go_at_call 154; refine Calls.quiet_of_same (less_any _ _ _)))
     go_wp2_with fail
     ·(try simp only [Exit.inBlock, Exit.then]); refine bodyPost_ret (results_none rfl _ _ _) rfl ?_
      exact ⟨rfl, HW2.out.drewN _⟩
     ·
      have HW3 := hid0 (HW2.out.drewN nq)
      have hcw2 : ∀ t, t < n → (wr2.drewN nq).cell? ⟨g, off + t, none⟩ = some (.int .i32 (G t)) := hcw
      have hfw2 : ∀ t, t < n → (wr2.drewN nq).frozen? ⟨g, off + t, none⟩ = false := hfw
      clear hcw hfw HW2
      generalize wr2.drewN nq = wr3 at hcw2 hfw2 HW3 ⊢
      have hcw := hcw2
      have hfw := hfw2
      clear hcw2 hfw2
      go_region
      go_wp2_with fail
      go_roundw
      case rel => exact ⟨2 * r + 2, by simp <;> omega, by omega, ((HW3.out.drew).put (by omega) _).put (by omega) _⟩
      case measure => simp [intOf0]; omega
    ·revert nq; intro nq1
     have HW2 := hid0 (HW.out.drewN nq1)
     have hcw2 : ∀ t, t < n → (wr.drewN nq1).cell? ⟨g, off + t, none⟩ = some (.int .i32 (G t)) := hcw
     have hfw2 : ∀ t, t < n → (wr.drewN nq1).frozen? ⟨g, off + t, none⟩ = false := hfw
     clear hcw hfw HW
     generalize wr.drewN nq1 = wr2 at hcw2 hfw2 HW2 ⊢
     have hcw := hcw2
     have hfw := hfw2
     clear hcw2 hfw2
     go_big_quiet (first | (go_at_call 154; refine Calls.quiet_of_same (less_any _ _ _)))
     go_wp2_with fail
     ·(try simp only [Exit.inBlock, Exit.then]); refine bodyPost_ret (results_none rfl _ _ _) rfl ?_
      exact ⟨rfl, HW2.out.drewN _⟩
     ·
      have HW3 := hid0 (HW2.out.drewN nq)
      have hcw2 : ∀ t, t < n → (wr2.drewN nq).cell? ⟨g, off + t, none⟩ = some (.int .i32 (G t)) := hcw
      have hfw2 : ∀ t, t < n → (wr2.drewN nq).frozen? ⟨g, off + t, none⟩ = false := hfw
      clear hcw hfw HW2
      generalize wr2.drewN nq = wr3 at hcw2 hfw2 HW3 ⊢
      have hcw := hcw2
      have hfw := hfw2
      clear hcw2 hfw2
      go_region
      go_wp2_with fail
      go_roundw
      case rel => exact ⟨2 * r + 1, by simp <;> omega, by omega, ((HW3.out.drew).put (by omega) _).put (by omega) _⟩
      case measure => simp [intOf0]; omega
   ·have h1z : decide (2 * (r : Int) + 1 + 1 < (hi : Int)) = false := by simp; omega
    go_wp2_with fail
    go_big_quiet (first | (go_at_call 154; refine Calls.quiet_of_same (less_any _ _ _)))
    go_wp2_with fail
    revert nq; intro nq1
    have HW2 := hid0 (HW.out.drewN nq1)
    have hcw2 : ∀ t, t < n → (wr.drewN nq1).cell? ⟨g, off + t, none⟩ = some (.int .i32 (G t)) := hcw
    have hfw2 : ∀ t, t < n → (wr.drewN nq1).frozen? ⟨g, off + t, none⟩ = false := hfw
    clear hcw hfw HW
    generalize wr.drewN nq1 = wr2 at hcw2 hfw2 HW2 ⊢
    have hcw := hcw2
    have hfw := hfw2
    clear hcw2 hfw2
    go_big_quiet (first | (go_at_call 154; refine Calls.quiet_of_same (less_any _ _ _)))
    go_wp2_with fail
    ·(try simp only [Exit.inBlock, Exit.then]); refine bodyPost_ret (results_none rfl _ _ _) rfl ?_
     exact ⟨rfl, HW2.out.drewN _⟩
    ·
     have HW3 := hid0 (HW2.out.drewN nq)
     have hcw2 : ∀ t, t < n → (wr2.drewN nq).cell? ⟨g, off + t, none⟩ = some (.int .i32 (G t)) := hcw
     have hfw2 : ∀ t, t < n → (wr2.drewN nq).frozen? ⟨g, off + t, none⟩ = false := hfw
     clear hcw hfw HW2
     generalize wr2.drewN nq = wr3 at hcw2 hfw2 HW3 ⊢
     have hcw := hcw2
     have hfw := hfw2
     clear hcw2 hfw2
     go_region
     go_wp2_with fail
     go_roundw
     case rel => exact ⟨2 * r + 1, by simp <;> omega, by omega, ((HW3.out.drew).put (by omega) _).put (by omega) _⟩
     case measure => simp [intOf0]; omega
set_option maxRecDepth 100000
theorem sift_int {w : World} {g off n sz cap : Nat} {lo hi first : Int} (hR : RowOk w g off n sz) (h0 : 0 ≤ first ∧ 0 ≤ lo) (hf : first + hi ≤ n) (hn : n < 1000000000) (hlo : lo ≤ hi) :
  Calls Tryz.prog 184 #[.slice (some ⟨g, off, none⟩) n cap, .int .i64 lo, .int .i64 hi, .int .i64 first] w fun e w' => e = .returned (.tuple #[]) ∧ RwP w g off n sz w' := by
 obtain ⟨a', rfl⟩ : ∃ k : Nat, lo = k := ⟨lo.toNat, by omega⟩
 obtain ⟨b', rfl⟩ : ∃ k : Nat, hi = k := ⟨hi.toNat, by omega⟩
 obtain ⟨c', rfl⟩ : ∃ k : Nat, first = k := ⟨first.toNat, by omega⟩
 exact sift_any hR (by omega) hn (by omega)
theorem RowOk.cel {w : World} {g off n sz : Nat} (h : RowOk w g off n sz) {t : Nat} (ht : t < n) : (∃ r, w.cell? ⟨g, off + t, none⟩ = some (.int .i32 r)) ∧ w.frozen? ⟨g, off + t, none⟩ = false := by
 obtain ⟨G, h1, h2⟩ := h.fam
 exact ⟨⟨G t, h1 t ht⟩, h2 t ht⟩
set_option maxHeartbeats 2000000 in
theorem heap_any {w : World} {g off n sz cap a b : Nat} (hR : RowOk w g off n sz) (hab : a < b) (hb : b ≤ n) (hn : n < 1000000000) :
  Calls Tryz.prog 149 #[.slice (some ⟨g, off, none⟩) n cap, .int .i64 (a : Int), .int .i64 (b : Int)] w fun e w' => e = .returned (.tuple #[]) ∧ RwP w g off n sz w' := by
 go_enter Tryz.func149, Tryz.ntmps149
 go_wp2_with fail
 go_loopw [9] (fun vi wr => ∃ i : Nat, vi = .int .i64 ((i : Int) - 1) ∧ i ≤ b - a ∧ Hid (RwP w g off n sz wr)) (fun vi _ => (intOf0 vi + 1).toNat)
 case atStart => exact ⟨(b - a - 1) / 2 + 1, by congr 1; omega, by omega, RwP.refl hR⟩
 case round =>
  obtain ⟨i, rfl, hi1, HW⟩ := hrel
  clear hR
  cases i with
  | succ i =>
   have hz : (0 : Int) ≤ ((i + 1 : Nat) : Int) - 1 := by omega
   have hc : ((i + 1 : Nat) : Int) - 1 = (i : Int) := by omega
   have F := hid0 (sift_int (cap := cap) (lo := (i : Int)) (hi := (b : Int) - (a : Int)) (first := (a : Int)) HW.out.row (by omega) (by omega) hn (by omega))
   go_wp2_with fail
   refine (F.out).mono ?_
   rintro e w1 ⟨rfl, P1⟩
   have HW1 := hid0 (HW.out.trans P1)
   clear P1 F HW
   go_wp2_with fail
   go_roundw
   case rel => exact ⟨i, by congr 1, by omega, HW1⟩
   case measure => simp [intOf0] <;> omega
  | zero =>
   have hz : ¬ ((0 : Int) ≤ ((0 : Nat) : Int) - 1) := by omega
   go_wp2_with fail
   go_loopw [10] (fun vi wr => ∃ i : Nat, vi = .int .i64 ((i : Int) - 1) ∧ i ≤ b - a ∧ Hid (RwP w g off n sz wr)) (fun vi _ => (intOf0 vi + 1).toNat)
   case atStart => exact ⟨b - a, by congr 1; omega, by omega, HW⟩
   case round =>
    obtain ⟨i, rfl, hi2, HW2⟩ := hrel
    clear HW
    cases i with
    | succ i =>
     have hz : (0 : Int) ≤ ((i + 1 : Nat) : Int) - 1 := by omega
     have hc : ((i + 1 : Nat) : Int) - 1 = (i : Int) := by omega
     go_wp2_with fail
     obtain ⟨G, hcw, hfw⟩ := HW2.out.row.fam
     obtain ⟨⟨q0, q1⟩, q2⟩ := (HW2.out.put (show a < n by omega) (G (a + i))).row.cel (show a + i < n by omega)
     go_region
     have HW3 := hid0 (((HW2.out.drew).put (show a < n by omega) (G (a + i))).put (show a + i < n by omega) (G a))
     have F := hid0 (sift_int (cap := cap) (lo := 0) (hi := (i : Int)) (first := (a : Int)) HW3.out.row (by omega) (by omega) hn (by omega))
     clear HW2 hcw hfw q1 q2
     go_wp2_with fail
     refine (F.out).mono ?_
     rintro e w1 ⟨rfl, P1⟩
     have HW4 := hid0 (HW3.out.trans P1)
     clear P1 F HW3
     go_wp2_with fail
     go_roundw
     case rel => exact ⟨i, by congr 1, by omega, HW4⟩
     case measure => simp [intOf0] <;> omega
    | zero =>
     have hz : ¬ ((0 : Int) ≤ ((0 : Nat) : Int) - 1) := by omega
     go_wp2_with fail
     go_end0
     exact ⟨rfl, HW2.out⟩
set_option maxHeartbeats 4000000 in
theorem par_any {w : World} {g off n sz cap a b p : Nat} (hR : RowOk w g off n sz) (hab : a + 2 ≤ b) (hb : b ≤ n) (hn : n < 1000000000) (hp : a ≤ p ∧ p < b) :
  Calls Tryz.prog 156 #[.slice (some ⟨g, off, none⟩) n cap, .int .i64 (a : Int), .int .i64 (b : Int), .int .i64 (p : Int)] w fun e w' => ∃ (m : Nat) (t : Bool), e = .returned (.tuple #[.int .i64 (m : Int), .bool t]) ∧ (a ≤ m ∧ m < b) ∧ RwP w g off n sz w' := by
 have HW0 := hid0 (RwP.refl hR)
 clear hR
 go_enter Tryz.func156, Tryz.ntmps156
 obtain ⟨G, hcw, hfw⟩ := HW0.out.row.fam
 obtain ⟨⟨q0, q1⟩, q2⟩ := (HW0.out.put (show a < n by omega) (G p)).row.cel (show p < n by omega)
 go_wp2_with fail
 go_region
 have HW := hid0 (((HW0.out.drew).put (show a < n by omega) (G p)).put (show p < n by omega) (G a))
 clear hcw hfw q1 q2 HW0
 go_upto_block 0 with fail
 go_cut [10] (fun sx wx => ∃ i : Nat, sx = .int .i64 (i : Int) ∧ a + 1 ≤ i ∧ i ≤ b ∧ Hid (RwP w g off n sz wx))
 case first =>
  go_wp2_with fail
  go_loopw [10] (fun vi wr => ∃ i : Nat, vi = .int .i64 (i : Int) ∧ (a + 1) ≤ i ∧ i ≤ b ∧ Hid (RwP w g off n sz wr)) (fun vi _ => b - (intOf0 vi).toNat)
  case atStart => exact ⟨(a + 1), by go_num, Nat.le_refl _, by omega, HW⟩
  case round =>
   obtain ⟨i, rfl, hs1, hs2, HWs⟩ := hrel
   clear HW
   obtain ⟨G, hcw, hfw⟩ := HWs.out.row.fam
   by_cases hc : i + 1 ≤ b
   ·have hz : (i : Int) ≤ (b : Int) - 1 := by omega
    go_wp2_with fail
    go_big_quiet (first | (go_at_call 154; refine Calls.quiet_of_same (less_any _ _ _)))
    go_wp2_with fail
    ·go_roundw
     case rel => exact ⟨i + 1, by go_num, by omega, by omega, HWs.out.drewN _⟩
     case measure => simp [intOf0] <;> omega
    ·go_meet
     case rel => exact ⟨i, rfl, by omega, by omega, HWs.out.drewN _⟩
   ·have hz : decide ((i : Int) ≤ (b : Int) - 1) = false := decide_eq_false (by omega)
    go_wp2_with fail
    go_big_quiet (first | (go_at_call 154; refine Calls.quiet_of_same (less_any _ _ _)))
    go_wp2_with fail
    go_meet
    case rel => exact ⟨i, rfl, by omega, by omega, HWs.out.drewN _⟩
 case rest =>
  obtain ⟨i, rfl, hi1, hi2, HW2⟩ := hcut
  clear HW
  go_upto_block 2 with fail
  go_cut [11] (fun sx wx => ∃ j : Nat, sx = .int .i64 (j : Int) ∧ j ≤ (b - 1) ∧ i ≤ j + 2 ∧ a ≤ j ∧ Hid (RwP w g off n sz wx))
  case first =>
   go_wp2_with fail
   go_loopw [11] (fun vj wr => ∃ j : Nat, vj = .int .i64 (j : Int) ∧ j ≤ (b - 1) ∧ i ≤ j + 2 ∧ a ≤ j ∧ Hid (RwP w g off n sz wr)) (fun vj _ => (intOf0 vj).toNat)
   case atStart => exact ⟨(b - 1), by congr 1; omega, Nat.le_refl _, by omega, by omega, HW2⟩
   case round =>
    obtain ⟨j, rfl, hs1, hs2, hs3, HWs⟩ := hrel
    clear HW2
    obtain ⟨G, hcw, hfw⟩ := HWs.out.row.fam
    by_cases hc : i ≤ j
    ·have hz : (i : Int) ≤ (j : Int) := by omega
     go_wp2_with fail
     go_big_quiet (first | (go_at_call 154; refine Calls.quiet_of_same (less_any _ _ _)))
     go_wp2_with fail
     ·go_roundw
      case rel => exact ⟨j - 1, by congr 1; omega, by omega, by omega, by omega, HWs.out.drewN _⟩
      case measure => simp [intOf0] <;> omega
     ·go_meet
      case rel => exact ⟨j, rfl, by omega, by omega, by omega, HWs.out.drewN _⟩
    ·have hz : decide ((i : Int) ≤ (j : Int)) = false := decide_eq_false (by omega)
     go_wp2_with fail
     go_big_quiet (first | (go_at_call 154; refine Calls.quiet_of_same (less_any _ _ _)))
     go_wp2_with fail
     go_meet
     case rel => exact ⟨j, rfl, by omega, by omega, by omega, HWs.out.drewN _⟩
  case rest =>
   obtain ⟨j, rfl, hj1, hj2, hj3, HW3⟩ := hcut
   clear HW2
   by_cases hij : j < i
   ·have hz : (j : Int) < (i : Int) := by omega
    obtain ⟨G, hcw, hfw⟩ := HW3.out.row.fam
    obtain ⟨⟨q0, q1⟩, q2⟩ := (HW3.out.put (show j < n by omega) (G a)).row.cel (show a < n by omega)
    go_wp2_with fail
    go_region
    have HW4 := hid0 (((HW3.out.drew).put (show j < n by omega) (G a)).put (show a < n by omega) (G j))
    clear hcw hfw q1 q2 HW3
    go_wp2_with fail
    go_ret2
    exact ⟨j, true, rfl, by omega, HW4.out⟩
   ·have hz : ¬ ((j : Int) < (i : Int)) := by omega
    obtain ⟨G, hcw, hfw⟩ := HW3.out.row.fam
    obtain ⟨⟨q0, q1⟩, q2⟩ := (HW3.out.put (show i < n by omega) (G j)).row.cel (show j < n by omega)
    go_wp2_with fail
    go_region
    have HW4 := hid0 (((HW3.out.drew).put (show i < n by omega) (G j)).put (show j < n by omega) (G i))
    clear hcw hfw q1 q2 HW3
    go_wp2_with fail
    go_loopw [10, 11] (fun vi vj wr => ∃ i j : Nat, vi = .int .i64 (i : Int) ∧ vj = .int .i64 (j : Int) ∧ a + 1 ≤ i ∧ i ≤ b ∧ a ≤ j ∧ j < b ∧ i ≤ j + 2 ∧ Hid (RwP w g off n sz wr)) (fun vi vj _ => (intOf0 vj + 2 - intOf0 vi).toNat)
    case atStart => exact ⟨i + 1, j - 1, by go_num, by congr 1; omega, by omega, by omega, by omega, by omega, by omega, HW4⟩
    case round =>
     clear HW4 hij hz hj1 hj2 hj3 hi1 hi2
     obtain ⟨i1, j1, rfl, rfl, hi1, hi2, hj1, hj2, hij2, HW⟩ := hrel
     go_upto_block 6 with fail
     go_cut [10] (fun sx wx => ∃ i : Nat, sx = .int .i64 (i : Int) ∧ i1 ≤ i ∧ i ≤ b ∧ i ≤ j1 + 2 ∧ Hid (RwP w g off n sz wx))
     case first =>
      go_wp2_with fail
      go_loopw [10] (fun vi wr => ∃ i : Nat, vi = .int .i64 (i : Int) ∧ i1 ≤ i ∧ i ≤ b ∧ i ≤ j1 + 2 ∧ Hid (RwP w g off n sz wr)) (fun vi _ => b - (intOf0 vi).toNat)
      case atStart => exact ⟨i1, rfl, Nat.le_refl _, by omega, by omega, HW⟩
      case round =>
       obtain ⟨i, rfl, hs1, hs2, hs3, HWs⟩ := hrel
       clear HW
       obtain ⟨G, hcw, hfw⟩ := HWs.out.row.fam
       by_cases hc : i ≤ j1
       ·have hz : (i : Int) ≤ (j1 : Int) := by omega
        go_wp2_with fail
        go_big_quiet (first | (go_at_call 154; refine Calls.quiet_of_same (less_any _ _ _)))
        go_wp2_with fail
        ·go_roundw
         case rel => exact ⟨i + 1, by go_num, by omega, by omega, by omega, HWs.out.drewN _⟩
         case measure => simp [intOf0] <;> omega
        ·go_meet
         case rel => exact ⟨i, rfl, by omega, by omega, by omega, HWs.out.drewN _⟩
       ·have hz : decide ((i : Int) ≤ (j1 : Int)) = false := decide_eq_false (by omega)
        go_wp2_with fail
        go_big_quiet (first | (go_at_call 154; refine Calls.quiet_of_same (less_any _ _ _)))
        go_wp2_with fail
        go_meet
        case rel => exact ⟨i, rfl, by omega, by omega, by omega, HWs.out.drewN _⟩
     case rest =>
      obtain ⟨i, rfl, hi3, hi4, hi5, HW2⟩ := hcut
      clear HW
      go_upto_block 8 with fail
      go_cut [11] (fun sx wx => ∃ j : Nat, sx = .int .i64 (j : Int) ∧ j ≤ j1 ∧ i ≤ j + 2 ∧ a ≤ j ∧ Hid (RwP w g off n sz wx))
      case first =>
       go_wp2_with fail
       go_loopw [11] (fun vj wr => ∃ j : Nat, vj = .int .i64 (j : Int) ∧ j ≤ j1 ∧ i ≤ j + 2 ∧ a ≤ j ∧ Hid (RwP w g off n sz wr)) (fun vj _ => (intOf0 vj).toNat)
       case atStart => exact ⟨j1, rfl, Nat.le_refl _, by omega, by omega, HW2⟩
       case round =>
        obtain ⟨j, rfl, hs1, hs2, hs3, HWs⟩ := hrel
        clear HW2
        obtain ⟨G, hcw, hfw⟩ := HWs.out.row.fam
        by_cases hc : i ≤ j
        ·have hz : (i : Int) ≤ (j : Int) := by omega
         go_wp2_with fail
         go_big_quiet (first | (go_at_call 154; refine Calls.quiet_of_same (less_any _ _ _)))
         go_wp2_with fail
         ·go_roundw
          case rel => exact ⟨j - 1, by congr 1; omega, by omega, by omega, by omega, HWs.out.drewN _⟩
          case measure => simp [intOf0] <;> omega
         ·go_meet
          case rel => exact ⟨j, rfl, by omega, by omega, by omega, HWs.out.drewN _⟩
        ·have hz : decide ((i : Int) ≤ (j : Int)) = false := decide_eq_false (by omega)
         go_wp2_with fail
         go_big_quiet (first | (go_at_call 154; refine Calls.quiet_of_same (less_any _ _ _)))
         go_wp2_with fail
         go_meet
         case rel => exact ⟨j, rfl, by omega, by omega, by omega, HWs.out.drewN _⟩
      case rest =>
       obtain ⟨j, rfl, hj3, hj4, hj5, HW3⟩ := hcut
       clear HW2
       by_cases hij : j < i
       ·have hz : (j : Int) < (i : Int) := by omega
        obtain ⟨G, hcw, hfw⟩ := HW3.out.row.fam
        obtain ⟨⟨q0, q1⟩, q2⟩ := (HW3.out.put (show j < n by omega) (G a)).row.cel (show a < n by omega)
        go_wp2_with fail
        go_region
        have HW4 := hid0 (((HW3.out.drew).put (show j < n by omega) (G a)).put (show a < n by omega) (G j))
        clear hcw hfw q1 q2 HW3
        go_wp2_with fail
        go_ret2
        exact ⟨j, false, rfl, by omega, HW4.out⟩
       ·have hz : ¬ ((j : Int) < (i : Int)) := by omega
        obtain ⟨G, hcw, hfw⟩ := HW3.out.row.fam
        obtain ⟨⟨q0, q1⟩, q2⟩ := (HW3.out.put (show i < n by omega) (G j)).row.cel (show j < n by omega)
        go_wp2_with fail
        go_region
        have HW4 := hid0 (((HW3.out.drew).put (show i < n by omega) (G j)).put (show j < n by omega) (G i))
        clear hcw hfw q1 q2 HW3
        go_wp2_with fail
        go_roundw
        case rel => exact ⟨i + 1, j - 1, by go_num, by congr 1; omega, by omega, by omega, by omega, by omega, by omega, HW4⟩
        case measure => simp [intOf0] <;> omega
set_option maxHeartbeats 4000000 in
theorem peq_any {w : World} {g off n sz cap a b p : Nat} (hR : RowOk w g off n sz) (hab : a + 2 ≤ b) (hb : b ≤ n) (hn : n < 1000000000) (hp : a ≤ p ∧ p < b) :
  Calls Tryz.prog 155 #[.slice (some ⟨g, off, none⟩) n cap, .int .i64 (a : Int), .int .i64 (b : Int), .int .i64 (p : Int)] w fun e w' => ∃ m : Nat, e = .returned (.int .i64 (m : Int)) ∧ (a < m ∧ m ≤ b) ∧ RwP w g off n sz w' := by
 have HW0 := hid0 (RwP.refl hR)
 clear hR
 go_enter Tryz.func155, Tryz.ntmps155
 obtain ⟨G, hcw, hfw⟩ := HW0.out.row.fam
 obtain ⟨⟨q0, q1⟩, q2⟩ := (HW0.out.put (show a < n by omega) (G p)).row.cel (show p < n by omega)
 go_wp2_with fail
 go_region
 have HW := hid0 (((HW0.out.drew).put (show a < n by omega) (G p)).put (show p < n by omega) (G a))
 clear hcw hfw q1 q2 HW0
 go_wp2_with fail
 go_loopw [9, 10] (fun vi vj wr => ∃ i j : Nat, vi = .int .i64 (i : Int) ∧ vj = .int .i64 (j : Int) ∧ a + 1 ≤ i ∧ i ≤ b ∧ a ≤ j ∧ j < b ∧ i ≤ j + 2 ∧ Hid (RwP w g off n sz wr)) (fun vi vj _ => (intOf0 vj + 2 - intOf0 vi).toNat)
 case atStart => exact ⟨a + 1, b - 1, by go_num, by congr 1; omega, by omega, by omega, by omega, by omega, by omega, HW⟩
 case round =>
  clear HW
  obtain ⟨i1, j1, rfl, rfl, hi1, hi2, hj1, hj2, hij2, HW⟩ := hrel
  go_upto_block 2 with fail
  go_cut [9] (fun sx wx => ∃ i : Nat, sx = .int .i64 (i : Int) ∧ i1 ≤ i ∧ i ≤ b ∧ i ≤ j1 + 2 ∧ Hid (RwP w g off n sz wx))
  case first =>
   go_wp2_with fail
   go_loopw [9] (fun vi wr => ∃ i : Nat, vi = .int .i64 (i : Int) ∧ i1 ≤ i ∧ i ≤ b ∧ i ≤ j1 + 2 ∧ Hid (RwP w g off n sz wr)) (fun vi _ => b - (intOf0 vi).toNat)
   case atStart => exact ⟨i1, rfl, Nat.le_refl _, by omega, by omega, HW⟩
   case round =>
    obtain ⟨i, rfl, hs1, hs2, hs3, HWs⟩ := hrel
    clear HW
    obtain ⟨G, hcw, hfw⟩ := HWs.out.row.fam
    by_cases hc : i ≤ j1
    ·have hz : (i : Int) ≤ (j1 : Int) := by omega
     go_wp2_with fail
     go_big_quiet (first | (go_at_call 154; refine Calls.quiet_of_same (less_any _ _ _)))
     go_wp2_with fail
     ·go_roundw
      case rel => exact ⟨i + 1, by go_num, by omega, by omega, by omega, HWs.out.drewN _⟩
      case measure => simp [intOf0] <;> omega
     ·go_meet
      case rel => exact ⟨i, rfl, by omega, by omega, by omega, HWs.out.drewN _⟩
    ·have hz : decide ((i : Int) ≤ (j1 : Int)) = false := decide_eq_false (by omega)
     go_wp2_with fail
     go_big_quiet (first | (go_at_call 154; refine Calls.quiet_of_same (less_any _ _ _)))
     go_wp2_with fail
     go_meet
     case rel => exact ⟨i, rfl, by omega, by omega, by omega, HWs.out.drewN _⟩
  case rest =>
   obtain ⟨i, rfl, hi3, hi4, hi5, HW2⟩ := hcut
   clear HW
   go_upto_block 4 with fail
   go_cut [10] (fun sx wx => ∃ j : Nat, sx = .int .i64 (j : Int) ∧ j ≤ j1 ∧ i ≤ j + 2 ∧ a ≤ j ∧ Hid (RwP w g off n sz wx))
   case first =>
    go_wp2_with fail
    go_loopw [10] (fun vj wr => ∃ j : Nat, vj = .int .i64 (j : Int) ∧ j ≤ j1 ∧ i ≤ j + 2 ∧ a ≤ j ∧ Hid (RwP w g off n sz wr)) (fun vj _ => (intOf0 vj).toNat)
    case atStart => exact ⟨j1, rfl, Nat.le_refl _, by omega, by omega, HW2⟩
    case round =>
     obtain ⟨j, rfl, hs1, hs2, hs3, HWs⟩ := hrel
     clear HW2
     obtain ⟨G, hcw, hfw⟩ := HWs.out.row.fam
     by_cases hc : i ≤ j
     ·have hz : (i : Int) ≤ (j : Int) := by omega
      go_wp2_with fail
      go_big_quiet (first | (go_at_call 154; refine Calls.quiet_of_same (less_any _ _ _)))
      go_wp2_with fail
      ·go_roundw
       case rel => exact ⟨j - 1, by congr 1; omega, by omega, by omega, by omega, HWs.out.drewN _⟩
       case measure => simp [intOf0] <;> omega
      ·go_meet
       case rel => exact ⟨j, rfl, by omega, by omega, by omega, HWs.out.drewN _⟩
     ·have hz : decide ((i : Int) ≤ (j : Int)) = false := decide_eq_false (by omega)
      go_wp2_with fail
      go_big_quiet (first | (go_at_call 154; refine Calls.quiet_of_same (less_any _ _ _)))
      go_wp2_with fail
      go_meet
      case rel => exact ⟨j, rfl, by omega, by omega, by omega, HWs.out.drewN _⟩
   case rest =>
    obtain ⟨j, rfl, hj3, hj4, hj5, HW3⟩ := hcut
    clear HW2
    by_cases hij : j < i
    ·have hz : (j : Int) < (i : Int) := by omega
     go_wp2_with fail
     go_ret
     exact ⟨i, rfl, by omega, HW3.out⟩
    ·have hz : ¬ ((j : Int) < (i : Int)) := by omega
     obtain ⟨G, hcw, hfw⟩ := HW3.out.row.fam
     obtain ⟨⟨q0, q1⟩, q2⟩ := (HW3.out.put (show i < n by omega) (G j)).row.cel (show j < n by omega)
     go_wp2_with fail
     go_region
     have HW4 := hid0 (((HW3.out.drew).put (show i < n by omega) (G j)).put (show j < n by omega) (G i))
     clear hcw hfw q1 q2 HW3
     go_wp2_with fail
     go_roundw
     case rel => exact ⟨i + 1, j - 1, by go_num, by congr 1; omega, by omega, by omega, by omega, by omega, by omega, HW4⟩
     case measure => simp [intOf0] <;> omega
end Go.Proofs.YtfollffpibmgcaaGreatDoor
