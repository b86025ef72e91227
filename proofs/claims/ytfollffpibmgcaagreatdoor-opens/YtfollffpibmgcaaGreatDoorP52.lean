/- The law Opens: Open's answer is the document's. -/
import Derived.Test.YtfollffpibmgcaaGreatDoorP51
namespace Go.Proofs.YtfollffpibmgcaaGreatDoor
open Go.RowKit Go.Maps
set_option linter.unusedVariables false
set_option maxRecDepth 100000
set_option maxHeartbeats 1000000 in
theorem open_long (s : ByteArray) (w : World) (hs : 300 < s.size) (hm : s.size ≤ maxLen) (o1 o2 o3 : Int) :
  Calls Tryz.prog 6 #[.string s, .agg #[.int .i64 o1, .int .i64 o2, .int .i64 o3]] w (OpenP w 1 (okO o1 o2 o3)) := by
 go_enter Tryz.func6, Tryz.ntmps6
 go_wp2_with fail
 refine (read_long s _ hs hm).mono ?_
 rintro e w1 ⟨rfl, k1⟩
 have K1 := hid (((Kept.refl Nil w).alloc (.cells #[.int .i64 o1, .int .i64 o2, .int .i64 o3] 23)).trans k1)
 clear k1
 simp only [patVal, patCells, zeroNv]
 go_wp2_with fail
 go_ret2
 exact ⟨K1.out.alloc _, Or.inl ⟨by decide, rfl⟩⟩
def BegunP (w : World) : Ending → World → Prop := fun e w' => ∃ v, e = .returned (.tuple #[v, .bool true]) ∧ Kept Nil w w'
theorem begun_core (s : ByteArray) (w : World) (o1 o2 o3 : Int) (D : Int → Int → Prop)
  (hO : Calls Tryz.prog 6 #[.string s, .agg #[.int .i64 o1, .int .i64 o2, .int .i64 o3]] (w.alloc (.cells #[.int .i64 o1, .int .i64 o2, .int .i64 o3] 23)) (fun e w' => ∃ f k, D f k ∧ OpenP (w.alloc (.cells #[.int .i64 o1, .int .i64 o2, .int .i64 o3] 23)) f (okO o1 o2 o3) e w'))
  (hRd : ∀ f k, D f k → ∀ W, Calls Tryz.prog 7 #[.string s] W (fun e w' => ∃ v1 v2, e = .returned (.tuple #[v1, v2, .int .i64 f, .int .i64 k]) ∧ (∃ ao n c, v2 = .slice ao n c) ∧ (f = 0 → ∃ b : Nat, v1 = .pointer (some ⟨b, 0, none⟩)) ∧ Kept Nil W w')) :
  Calls Tryz.prog 4 #[.string s, .agg #[.int .i64 o1, .int .i64 o2, .int .i64 o3]] w (BegunP w) := by
 have B0 := Blk.new w #[.int .i64 o1, .int .i64 o2, .int .i64 o3] 23
 have HB := hid B0
 have HO := hid hO
 have HR := hid hRd
 have K0 : Hid (Kept Nil w (w.alloc (.cells #[.int .i64 o1, .int .i64 o2, .int .i64 o3] 23))) := (Kept.refl Nil w).alloc _
 clear B0 hO hRd
 go_enter Tryz.func4, Tryz.ntmps4
 go_wp2_with fail
 refine (HO.out).mono ?_
 rintro e w1 ⟨f, k, hD, k1, hA⟩
 have HR := hid (HR.out f k hD)
 have K1 := hid k1
 clear k1
 rcases hA with ⟨h0, rfl⟩ | ⟨h0, hok, rfl⟩ | ⟨h0, hok, p, rfl⟩
 ·go_wp2_with fail
  refine (HR.out _).mono ?_
  rintro e w2 ⟨v1, v2, rfl, ⟨ao, n, c, rfl⟩, hv1, k2⟩
  clear hv1
  have b2 := (HB.out.kept K1.out (fun hx => hx)).kept k2 (fun hx => hx)
  have c0 : w2.cell? ⟨w.heap.size, 0, none⟩ = some (.int .i64 o1) := b2.cell 0
  have c1 : w2.cell? ⟨w.heap.size, 1, none⟩ = some (.int .i64 o2) := b2.cell 1
  have c2 : w2.cell? ⟨w.heap.size, 2, none⟩ = some (.int .i64 o3) := b2.cell 2
  have HB2 := hid b2
  have K2 := hid ((K0.out.trans K1.out).trans k2)
  clear b2 k2
  go_wp2_with fail
  refine (fits_any _ o1 o2 o3).mono ?_
  rintro e w3 ⟨rfl, k3⟩
  have K3 := hid (K2.out.trans k3)
  have b3 := HB2.out.kept k3 (fun hx => hx)
  have e0 : w3.cell? ⟨w.heap.size, 0, none⟩ = some (.int .i64 o1) := b3.cell 0
  have e1 : w3.cell? ⟨w.heap.size, 1, none⟩ = some (.int .i64 o2) := b3.cell 1
  have e2 : w3.cell? ⟨w.heap.size, 2, none⟩ = some (.int .i64 o3) := b3.cell 2
  clear k3 b3 HB2
  have hz0 : (f == 0) = false := by simp [h0]
  have hz1 : (f != f) = false := by simp
  have hz2 : (f != 0) = true := by simp [h0]
  clear h0
  go_wp2_with fail
  refine (lnum_any _ _).mono ?_
  rintro e w4 ⟨rfl, rfl⟩
  go_wp2_with fail
  go_ret2
  exact ⟨_, rfl, K3.out⟩
 ·go_wp2_with fail
  refine (HR.out _).mono ?_
  rintro e w2 ⟨v1, v2, rfl, ⟨ao, n, c, rfl⟩, hv1, k2⟩
  clear hv1
  have b2 := (HB.out.kept K1.out (fun hx => hx)).kept k2 (fun hx => hx)
  have c0 : w2.cell? ⟨w.heap.size, 0, none⟩ = some (.int .i64 o1) := b2.cell 0
  have c1 : w2.cell? ⟨w.heap.size, 1, none⟩ = some (.int .i64 o2) := b2.cell 1
  have c2 : w2.cell? ⟨w.heap.size, 2, none⟩ = some (.int .i64 o3) := b2.cell 2
  have HB2 := hid b2
  have K2 := hid ((K0.out.trans K1.out).trans k2)
  clear b2 k2
  go_wp2_with fail
  refine (fits_any _ o1 o2 o3).mono ?_
  rintro e w3 ⟨rfl, k3⟩
  have K3 := hid (K2.out.trans k3)
  have b3 := HB2.out.kept k3 (fun hx => hx)
  have e0 : w3.cell? ⟨w.heap.size, 0, none⟩ = some (.int .i64 o1) := b3.cell 0
  have e1 : w3.cell? ⟨w.heap.size, 1, none⟩ = some (.int .i64 o2) := b3.cell 1
  have e2 : w3.cell? ⟨w.heap.size, 2, none⟩ = some (.int .i64 o3) := b3.cell 2
  clear k3 b3 HB2
  have hz0 : (f == 0) = true := by simp [h0]
  clear h0
  go_wp2_with fail
  refine (lnum_any _ _).mono ?_
  rintro e w4 ⟨rfl, rfl⟩
  go_wp2_with fail
  go_ret2
  exact ⟨_, rfl, K3.out⟩
 ·go_wp2_with fail
  refine (HR.out _).mono ?_
  rintro e w2 ⟨v1, v2, rfl, ⟨ao, n, c, rfl⟩, hv1, k2⟩
  obtain ⟨b1, rfl⟩ := hv1 h0
  clear hv1
  have b2 := (HB.out.kept K1.out (fun hx => hx)).kept k2 (fun hx => hx)
  have c0 : w2.cell? ⟨w.heap.size, 0, none⟩ = some (.int .i64 o1) := b2.cell 0
  have c1 : w2.cell? ⟨w.heap.size, 1, none⟩ = some (.int .i64 o2) := b2.cell 1
  have c2 : w2.cell? ⟨w.heap.size, 2, none⟩ = some (.int .i64 o3) := b2.cell 2
  have HB2 := hid b2
  have K2 := hid ((K0.out.trans K1.out).trans k2)
  clear b2 k2
  go_wp2_with fail
  refine (fits_any _ o1 o2 o3).mono ?_
  rintro e w3 ⟨rfl, k3⟩
  have K3 := hid (K2.out.trans k3)
  have b3 := HB2.out.kept k3 (fun hx => hx)
  have e0 : w3.cell? ⟨w.heap.size, 0, none⟩ = some (.int .i64 o1) := b3.cell 0
  have e1 : w3.cell? ⟨w.heap.size, 1, none⟩ = some (.int .i64 o2) := b3.cell 1
  have e2 : w3.cell? ⟨w.heap.size, 2, none⟩ = some (.int .i64 o3) := b3.cell 2
  clear k3 b3 HB2
  have hz0 : (f == 0) = true := by simp [h0]
  have hz1 : ((0 : Int) != f) = false := by simp [h0]
  have hz2 : (f != 0) = false := by simp [h0]
  clear h0
  go_wp2_with fail
  refine (lnum_any _ _).mono ?_
  rintro e w4 ⟨rfl, rfl⟩
  go_wp2_with fail
  go_ret2
  exact ⟨_, rfl, K3.out.alloc _⟩
theorem begun_walk (s : ByteArray) (w : World) (hm : s.size ≤ maxLen) (o1 o2 o3 : Int) : Calls Tryz.prog 4 #[.string s, .agg #[.int .i64 o1, .int .i64 o2, .int .i64 o3]] w (BegunP w) := by
 by_cases hs : s.size ≤ 300
 ·refine begun_core s w o1 o2 o3 (fun f k => ∃ g, GOf g s ∧ f = (refPick g s).1 ∧ k = (refPick g s).2) ?_ (fun f k hD W => ?_)
  ·refine (open_short s _ hs o1 o2 o3).mono ?_
   rintro e w' ⟨g, hg, hP⟩
   exact ⟨_, _, ⟨g, hg, rfl, rfl⟩, hP⟩
  ·obtain ⟨g, hg, rfl, rfl⟩ := hD
   refine (Read_short s W g hg hs).mono ?_
   rintro e w' ⟨v1, v2, rfl, hk, h1, h2⟩
   refine ⟨v1, v2, rfl, ?_, fun h0 => by obtain ⟨_, _, b, _, _, _, hv, _⟩ := h2 h0; exact ⟨b, hv⟩, hk⟩
   by_cases h0 : (refPick g s).1 = 0
   ·obtain ⟨nl, lo, b, _, hrow, _⟩ := h2 h0
    obtain ⟨ao, c, rfl⟩ := ownsRow_slice hrow
    exact ⟨_, _, _, rfl⟩
   ·exact ⟨_, _, _, h1 h0⟩
 ·refine begun_core s w o1 o2 o3 (fun f k => f = 1 ∧ k = 0) ?_ (fun f k hD W => ?_)
  ·refine (open_long s _ (by omega) hm o1 o2 o3).mono ?_
   rintro e w' hP
   exact ⟨1, 0, ⟨rfl, rfl⟩, hP⟩
  obtain ⟨rfl, rfl⟩ := hD
  refine (Read_long s W (by omega) hm).mono ?_
  rintro e w' ⟨rfl, hk⟩
  exact ⟨_, _, rfl, ⟨_, _, _, rfl⟩, fun h => by omega, hk⟩
theorem opens_walk (s : ByteArray) (w : World) (hm : s.size ≤ maxLen) (o1 o2 o3 : Int) : Calls Tryz.prog 3 #[.string s, .agg #[.int .i64 o1, .int .i64 o2, .int .i64 o3]] w fun e w' => e = .returned (.bool true) ∧ Kept Nil w w' := by
 have B0 := Blk.new w #[.int .i64 o1, .int .i64 o2, .int .i64 o3] 23
 have F := hid (begun_walk s (w.alloc (.cells #[.int .i64 o1, .int .i64 o2, .int .i64 o3] 23)) hm o1 o2 o3)
 go_enter Tryz.func3, Tryz.ntmps3
 go_wp2_with fail
 refine (F.out).mono ?_
 rintro e w1 ⟨v, rfl, k1⟩
 have K1 := hid (((Kept.refl Nil w).alloc (.cells #[.int .i64 o1, .int .i64 o2, .int .i64 o3] 23)).trans k1)
 clear k1 F B0
 go_wp2_with fail
 refine (unmade_rd w1).mono ?_
 rintro e w2 ⟨rfl, k2⟩
 have K2 := hid (K1.out.trans k2)
 clear k2 K1
 go_wp2_with fail
 go_ret
 exact ⟨rfl, K2.out⟩
end Go.Proofs.YtfollffpibmgcaaGreatDoor
