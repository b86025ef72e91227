/- The library's sort of runes, fourth part: partial insertion sort, breakPatterns. The library's sort of runes, fifth part: breakPatterns. The library's sort of runes, last part: pdqsort, Sort. The library's Sort and Compact of runes: they come back, and turn nothing but the row. -/
import Derived.Test.YtfollffpibmgcaaGreatDoorP27
import Derived.Lib.SliceRun
set_option linter.unusedVariables false
set_option maxRecDepth 100000
namespace Go.Proofs.YtfollffpibmgcaaGreatDoor
open Go.RowKit Go.Lib Go.Sort
def PinsP (w : World) (g off n sz : Nat) : Ending → World → Prop := fun e w' => ∃ t : Bool, e = .returned (.bool t) ∧ RwP w g off n sz w'
set_option maxHeartbeats 4000000 in
theorem pins_any {w : World} {g off n sz cap a b : Nat} (hR : RowOk w g off n sz) (hab : a + 2 ≤ b) (hb : b ≤ n) (hn : n < 1000000000) :
  Calls Tryz.prog 153 #[.slice (some ⟨g, off, none⟩) n cap, .int .i64 (a : Int), .int .i64 (b : Int)] w (PinsP w g off n sz) := by
 have HW0 := hid0 (RwP.refl hR)
 clear hR
 go_enter Tryz.func153, Tryz.ntmps153
 go_wp2_with fail
 go_loopw [7, 8] (fun vi vj wr => ∃ i1 j1 : Nat, vi = .int .i64 (i1 : Int) ∧ vj = .int .i64 (j1 : Int) ∧ a + 1 ≤ i1 ∧ i1 ≤ b ∧ j1 ≤ 5 ∧ Hid (RwP w g off n sz wr)) (fun _ vj _ => 5 - (intOf0 vj).toNat)
 case atStart => exact ⟨a + 1, 0, by go_num, rfl, by omega, by omega, by omega, HW0⟩
 case round =>
  clear HW0
  obtain ⟨i1, j1, rfl, rfl, hi1, hi2, hj1, HW⟩ := hrel
  by_cases hj5 : j1 < 5
  ·have hz5 : (j1 : Int) < 5 := by omega
   go_upto_block 2 with fail
   go_cut [7] (fun sx wx => ∃ i : Nat, sx = .int .i64 (i : Int) ∧ i1 ≤ i ∧ i ≤ b ∧ Hid (RwP w g off n sz wx))
   case first =>
    go_wp2_with fail
    go_loopw [7] (fun vi wr => ∃ i : Nat, vi = .int .i64 (i : Int) ∧ i1 ≤ i ∧ i ≤ b ∧ Hid (RwP w g off n sz wr)) (fun vi _ => b - (intOf0 vi).toNat)
    case atStart => exact ⟨i1, rfl, Nat.le_refl _, by omega, HW⟩
    case round =>
     obtain ⟨i, rfl, hs1, hs2, HWs⟩ := hrel
     clear HW
     obtain ⟨G, hcw, hfw⟩ := HWs.out.row.fam
     by_cases hc : i < b
     ·have hz : (i : Int) < (b : Int) := by omega
      go_wp2_with fail
      go_big_quiet (first | (go_at_call 154; refine Calls.quiet_of_same (less_any _ _ _)))
      go_wp2_with fail
      ·go_roundw
       case rel => exact ⟨i + 1, by go_num, by omega, by omega, HWs.out.drewN _⟩
       case measure => simp [intOf0] <;> omega
      ·go_meet
       case rel => exact ⟨i, rfl, by omega, by omega, HWs.out.drewN _⟩
     ·have hz : decide ((i : Int) < (b : Int)) = false := decide_eq_false (by omega)
      go_wp2_with fail
      go_big_quiet (first | (go_at_call 154; refine Calls.quiet_of_same (less_any _ _ _)))
      go_wp2_with fail
      go_meet
      case rel => exact ⟨i, rfl, by omega, by omega, HWs.out.drewN _⟩
   case rest =>
    obtain ⟨i, rfl, hi3, hi4, HW2⟩ := hcut
    clear HW
    by_cases hib : i = b
    ·have hz : ((i : Int) == (b : Int)) = true := by simp [hib]
     clear hib
     go_wp2_with fail
     go_ret
     exact ⟨true, rfl, HW2.out⟩
    ·have hz : ((i : Int) == (b : Int)) = false := by simp; omega
     by_cases h50 : b < a + 50
     ·have hz2 : (b : Int) - (a : Int) < 50 := by omega
      go_wp2_with fail
      go_ret
      exact ⟨false, rfl, HW2.out⟩
     ·have hz2 : ¬ ((b : Int) - (a : Int) < 50) := by omega
      obtain ⟨G, hcw, hfw⟩ := HW2.out.row.fam
      obtain ⟨⟨q0, q1⟩, q2⟩ := (HW2.out.put (show i < n by omega) (G (i - 1))).row.cel (show i - 1 < n by omega)
      go_wp2_with fail
      go_region
      have HWa := hid0 (((HW2.out.drew).put (show i < n by omega) (G (i - 1))).put (show i - 1 < n by omega) (G i))
      clear hcw hfw q1 q2 HW2
      go_upto_if 61 with fail
      go_cut [7] (fun sx wx => sx = .int .i64 (i : Int) ∧ Hid (RwP w g off n sz wx))
      case first =>
       by_cases h2 : a + 2 ≤ i
       ·have hz3 : (2 : Int) ≤ (i : Int) - (a : Int) := by omega
        go_wp2_with fail
        go_loopw [9] (fun vj wr => ∃ j : Nat, vj = .int .i64 (j : Int) ∧ j < i ∧ j < n ∧ Hid (RwP w g off n sz wr)) (fun vj _ => (intOf0 vj).toNat)
        case atStart => exact ⟨i - 1, by congr 1; omega, by omega, by omega, HWa⟩
        case round =>
         obtain ⟨j, rfl, hs1, hs2, HWs⟩ := hrel
         clear HWa
         by_cases hc : 1 ≤ j
         ·have hz : (1 : Int) ≤ (j : Int) := by omega
          obtain ⟨G, hcw, hfw⟩ := HWs.out.row.fam
          go_wp2_with fail
          go_big_quiet (first | (go_at_call 154; refine Calls.quiet_of_same (less_any _ _ _)))
          go_wp2_with fail
          ·go_meet
           case rel => exact ⟨rfl, HWs.out.drewN _⟩
          ·have HWt := hid0 (HWs.out.drewN nq)
           have hcw2 : ∀ t, t < n → (wr.drewN nq).cell? ⟨g, off + t, none⟩ = some (.int .i32 (G t)) := hcw
           have hfw2 : ∀ t, t < n → (wr.drewN nq).frozen? ⟨g, off + t, none⟩ = false := hfw
           clear hcw hfw HWs
           generalize wr.drewN nq = wr2 at hcw2 hfw2 HWt ⊢
           obtain ⟨⟨q0, q1⟩, q2⟩ := (HWt.out.put (show j < n by omega) (G (j - 1))).row.cel (show j - 1 < n by omega)
           go_region
           go_wp2_with fail
           go_roundw
           case rel => exact ⟨j - 1, by congr 1; omega, by omega, by omega, ((HWt.out.drew).put (show j < n by omega) _).put (show j - 1 < n by omega) _⟩
           case measure => simp [intOf0] <;> omega
         ·have hz : ¬ ((1 : Int) ≤ (j : Int)) := by omega
          go_wp2_with fail
          go_meet
          case rel => exact ⟨rfl, HWs.out⟩
       ·have hz3 : ¬ ((2 : Int) ≤ (i : Int) - (a : Int)) := by omega
        go_wp2_with fail
        go_meet
        case rel => exact ⟨rfl, HWa⟩
      case rest =>
       obtain ⟨rfl, HWb⟩ := hcut
       clear HWa
       have HWa := HWb
       clear HWb
       by_cases h2 : i + 2 ≤ b
       ·have hz3 : (2 : Int) ≤ (b : Int) - (i : Int) := by omega
        go_wp2_with fail
        go_loopw [10] (fun vj wr => ∃ j : Nat, vj = .int .i64 (j : Int) ∧ j ≤ b ∧ i + 1 ≤ j ∧ Hid (RwP w g off n sz wr)) (fun vj _ => (b - (intOf0 vj).toNat))
        case atStart => exact ⟨i + 1, by go_num, by omega, by omega, HWa⟩
        case round =>
         obtain ⟨j, rfl, hs1, hs2, HWs⟩ := hrel
         clear HWa
         by_cases hc : j < b
         ·have hz : (j : Int) < (b : Int) := by omega
          obtain ⟨G, hcw, hfw⟩ := HWs.out.row.fam
          go_wp2_with fail
          go_big_quiet (first | (go_at_call 154; refine Calls.quiet_of_same (less_any _ _ _)))
          go_wp2_with fail
          ·go_roundw
           case rel => exact ⟨i, j1 + 1, rfl, by go_num, by omega, by omega, by omega, HWs.out.drewN _⟩
           case measure => simp [intOf0] <;> omega
          ·have HWt := hid0 (HWs.out.drewN nq)
           have hcw2 : ∀ t, t < n → (wr.drewN nq).cell? ⟨g, off + t, none⟩ = some (.int .i32 (G t)) := hcw
           have hfw2 : ∀ t, t < n → (wr.drewN nq).frozen? ⟨g, off + t, none⟩ = false := hfw
           clear hcw hfw HWs
           generalize wr.drewN nq = wr2 at hcw2 hfw2 HWt ⊢
           obtain ⟨⟨q0, q1⟩, q2⟩ := (HWt.out.put (show j < n by omega) (G (j - 1))).row.cel (show j - 1 < n by omega)
           go_region
           go_wp2_with fail
           go_roundw
           case rel => exact ⟨j + 1, by go_num, by omega, by omega, ((HWt.out.drew).put (show j < n by omega) _).put (show j - 1 < n by omega) _⟩
           case measure => simp [intOf0] <;> omega
         ·have hz : ¬ ((j : Int) < (b : Int)) := by omega
          go_wp2_with fail
          go_roundw
          case rel => exact ⟨i, j1 + 1, rfl, by go_num, by omega, by omega, by omega, HWs.out⟩
          case measure => simp [intOf0] <;> omega
       ·have hz3 : ¬ ((2 : Int) ≤ (b : Int) - (i : Int)) := by omega
        go_wp2_with fail
        go_roundw
        case rel => exact ⟨i, j1 + 1, rfl, by go_num, by omega, by omega, by omega, HWa⟩
        case measure => simp [intOf0] <;> omega
  ·have hz5 : ¬ ((j1 : Int) < 5) := by omega
   go_wp2_with fail
   go_ret
   exact ⟨false, rfl, HW.out⟩
set_option maxRecDepth 100000
theorem RwP.new {w w1 : World} {g off n sz : Nat} (h : RwP w g off n sz w1) (o : Obj) : RwP w g off n sz (w1.alloc o) := ⟨h.row.kept ((Kept.refl Nil w1).alloc o) (fun hx => hx), h.kept.alloc o⟩
theorem RwP.setNew {w w1 : World} {g off n sz s j : Nat} (h : RwP w g off n sz w1) (hs : w.heap.size ≤ s) (hg : g ≠ s) (u : Value) : RwP w g off n sz (w1.setCell ⟨s, j, none⟩ u) :=
 ⟨h.row.kept ((Kept.refl (fun i => i = s) w1).setCell (p := ⟨s, j, none⟩) (Or.inl rfl) u) hg, h.kept.setCell (p := ⟨s, j, none⟩) (Or.inr hs) u⟩
theorem np2_any (L : Nat) (hL : L < 1000000000) (w : World) : Calls Tryz.prog 185 #[.int .i64 (L : Int)] w fun e w' => e = .returned (.int .u64 ((1 <<< bitsLen L : Nat) : Int)) ∧ w' = w :=
 AnyF.nextPowerOfTwo (P := Tryz.prog) (ρ := Tryz.sortSp_ren) { Tryz.sortSp with } L (by omega) w
theorem xnext_any (s X : Nat) (hX : X < 18446744073709551616) (w : World) (hc : w.cell? ⟨s, 0, none⟩ = some (.int .u64 X)) (hf : w.frozen? ⟨s, 0, none⟩ = false) :
  Calls Tryz.prog 186 #[.pointer (some ⟨s, 0, none⟩)] w fun e w' => e = .returned (.int .u64 (xorNextN X : Nat)) ∧ w' = (w.setCell ⟨s, 0, none⟩ (.int .u64 (xorNextN X : Nat))).drewN 3 :=
 AnyF.xorshift_Next (P := Tryz.prog) (ρ := Tryz.sortSp_ren) { Tryz.sortSp with } s 0 X hX w hc hf
set_option maxHeartbeats 4000000 in
theorem brk_any {w : World} {g off n sz cap a b : Nat} (hR : RowOk w g off n sz) (hab : a + 12 ≤ b) (hb : b ≤ n) (hn : n < 1000000000) :
  Calls Tryz.prog 150 #[.slice (some ⟨g, off, none⟩) n cap, .int .i64 (a : Int), .int .i64 (b : Int)] w fun e w' => e = .returned (.tuple #[]) ∧ RwP w g off n sz w' := by
 obtain ⟨M, hM⟩ : ∃ M : Nat, M = 1 <<< bitsLen (b - a) := ⟨_, rfl⟩
 have hM1 : 1 ≤ M := by rw [hM, Nat.one_shiftLeft]; exact Nat.two_pow_pos _
 have hM2 : M ≤ 2 * (b - a) := by rw [hM, Nat.one_shiftLeft]; exact two_pow_bitsLen_le (by omega)
 have hNP : Hid (∀ w, Calls Tryz.prog 185 #[.int .i64 ((b : Int) - (a : Int))] w fun e w' => e = .returned (.int .u64 (M : Int)) ∧ w' = w) := by
  intro w
  rw [show (b : Int) - (a : Int) = ((b - a : Nat) : Int) by omega, hM]
  exact np2_any (b - a) (by omega) w
 have hgl := hR.lt
 have hgs : g ≠ w.heap.size := by omega
 have hsg : w.heap.size ≠ g := by omega
 have HW0 := hid0 ((RwP.refl hR).new (.cells #[.int .u64 ((b : Int) - (a : Int))] 265))
 have h8 : (8 : Int) ≤ (b : Int) - (a : Int) := by omega
 clear hM hR
 go_enter Tryz.func150, Tryz.ntmps150
 go_wp2_with fail
 refine (hNP.out _).mono ?_
 rintro e w' ⟨rfl, rfl⟩
 go_wp2_with fail
 go_loopw [9] (fun vi wr => ∃ (i X : Nat), vi = .int .i64 (i : Int) ∧ a ≤ i ∧ i ≤ a + (b - a) / 4 * 2 + 2 ∧ X < 18446744073709551616 ∧ wr.cell? ⟨w.heap.size, 0, none⟩ = some (.int .u64 (X : Int)) ∧ wr.frozen? ⟨w.heap.size, 0, none⟩ = false ∧ Hid (RwP w g off n sz wr)) (fun vi _ => a + (b - a) / 4 * 2 + 2 - (intOf0 vi).toNat)
 case atStart =>
  refine ⟨a + (b - a) / 4 * 2 - 1, b - a, by congr 1; omega, by omega, by omega, by omega, ?_, by simp, HW0⟩
  rw [show ((b - a : Nat) : Int) = (b : Int) - (a : Int) by omega]
  simp
 case round =>
  clear HW0
  obtain ⟨i, X, rfl, hi1, hi2, hX, cX, fX, HW⟩ := hrel
  by_cases hc : i ≤ a + (b - a) / 4 * 2 + 1
  ·have hz : (i : Int) ≤ (a : Int) + ((b : Int) - (a : Int)) / 4 * 2 + 1 := by omega
   obtain ⟨X', hX'⟩ : ∃ X' : Nat, X' = xorNextN X := ⟨_, rfl⟩
   have lX' : X' < 18446744073709551616 := by rw [hX']; exact xorNextN_lt X hX
   obtain ⟨O, hO⟩ : ∃ O : Nat, O = X' &&& (M - 1) := ⟨_, rfl⟩
   have lO : O ≤ M - 1 := by rw [hO]; exact Nat.and_le_right
   have eAnd : bits .and .u64 (X' : Int) ((M : Int) - 1) = (O : Int) := by
    rw [show ((M : Int) - 1) = ((M - 1 : Nat) : Int) by omega, bits_and_u64_nat _ _ lX' (by omega), hO]
   have F := xnext_any w.heap.size X hX wr cX fX
   rw [← hX'] at F
   have F := hid0 F
   have HW1 := hid0 ((HW.out.setNew (j := 0) (Nat.le_refl _) hgs (.int .u64 (X' : Int))).drewN 3)
   have cX1 : ((wr.setCell ⟨w.heap.size, 0, none⟩ (.int .u64 (X' : Int))).drewN 3).cell? ⟨w.heap.size, 0, none⟩ = some (.int .u64 (X' : Int)) := by
    rw [World.cell?_drewN]; exact World.cell?_setCell_same _ _ _ cX
   have fX1 : ((wr.setCell ⟨w.heap.size, 0, none⟩ (.int .u64 (X' : Int))).drewN 3).frozen? ⟨w.heap.size, 0, none⟩ = false := by
    rw [World.frozen?_drewN]; simpa using fX
   clear HW hX' hO
   generalize (wr.setCell ⟨w.heap.size, 0, none⟩ (.int .u64 (X' : Int))).drewN 3 = w2 at F HW1 cX1 fX1
   clear cX fX hX
   go_wp2_with fail
   refine (F.out).mono ?_
   rintro e w' ⟨rfl, rfl⟩
   clear F
   go_upto_if 43 with fail
   go_cut [10] (fun sx wx => ∃ o : Nat, sx = .int .i64 (o : Int) ∧ o < b - a ∧ wx = w')
   case first =>
    by_cases hL : b - a ≤ O
    ·have hzL : (b : Int) - (a : Int) ≤ (O : Int) := by omega
     go_wp2_with fail
     go_meet
     case rel => exact ⟨O - (b - a), by congr 1; omega, by omega, rfl⟩
    ·have hzL : ¬ ((b : Int) - (a : Int) ≤ (O : Int)) := by omega
     go_wp2_with fail
     go_meet
     case rel => exact ⟨O, rfl, by omega, rfl⟩
   case rest =>
    obtain ⟨o, rfl, ho, rfl⟩ := hcut
    obtain ⟨G, hcw, hfw⟩ := HW1.out.row.fam
    obtain ⟨⟨q0, q1⟩, q2⟩ := (HW1.out.put (show i < n by omega) (G (a + o))).row.cel (show a + o < n by omega)
    go_wp2_with fail
    go_region
    have HW2 := hid0 (((HW1.out.drew).put (show i < n by omega) (G (a + o))).put (show a + o < n by omega) (G i))
    have kk := (((Kept.refl (fun i => i = g) wc).drew).setCell (p := ⟨g, off + i, none⟩) (Or.inl rfl) (.int .i32 (G (a + o)))).setCell (p := ⟨g, off + (a + o), none⟩) (Or.inl rfl) (.int .i32 (G i))
    have hlt2 := World.block_lt_of_cell? _ _ cX1
    have CX2 := hid0 (And.intro ((kk.cell (p := ⟨w.heap.size, 0, none⟩) hlt2 hsg).trans cX1) ((kk.frozen (p := ⟨w.heap.size, 0, none⟩) hlt2 hsg).trans fX1))
    clear hcw hfw q1 q2 kk
    go_wp2_with fail
    go_roundw
    case rel =>
     exact ⟨i + 1, X', by go_num, by omega, by omega, lX', CX2.out.1, CX2.out.2, HW2⟩
    case measure => simp [intOf0] <;> omega
  ·have hz : ¬ ((i : Int) ≤ (a : Int) + ((b : Int) - (a : Int)) / 4 * 2 + 1) := by omega
   go_wp2_with fail
   go_end0
   exact ⟨rfl, HW.out⟩
set_option maxHeartbeats 8000000 in
theorem pdq_any {g off n sz cap : Nat} (hn : n < 1000000000) : ∀ (N : Nat) (w : World) (a b lim : Nat), b - a ≤ N → RowOk w g off n sz → a ≤ b → b ≤ n → lim ≤ 100 →
  Calls Tryz.prog 119 #[.slice (some ⟨g, off, none⟩) n cap, .int .i64 (a : Int), .int .i64 (b : Int), .int .i64 (lim : Int)] w fun e w' => e = .returned (.tuple #[]) ∧ RwP w g off n sz w' := by
 intro N
 induction N using Nat.strongRecOn with
 | ind N IH =>
 intro w a b lim hN hR hab hb hlim
 have HIH := hid0 IH
 have HW0 := hid0 (RwP.refl hR)
 clear IH hR
 go_enter Tryz.func119, Tryz.ntmps119
 go_wp2_with fail
 go_loopw [1, 2, 3, 8, 9] (fun va vb vl vwb vwp wr => ∃ (a1 b1 l1 : Nat) (wb wp : Bool), va = .int .i64 (a1 : Int) ∧ vb = .int .i64 (b1 : Int) ∧ vl = .int .i64 (l1 : Int) ∧ vwb = .bool wb ∧ vwp = .bool wp ∧ a1 ≤ b1 ∧ b1 ≤ n ∧ b1 - a1 ≤ N ∧ l1 ≤ 100 ∧ Hid (RwP w g off n sz wr)) (fun va vb _ _ _ _ => (intOf0 vb - intOf0 va).toNat)
 case atStart => exact ⟨a, b, lim, true, true, rfl, rfl, rfl, rfl, rfl, hab, hb, hN, hlim, HW0⟩
 case round =>
  clear HW0 hab hb hN hlim
  obtain ⟨a1, b1, l1, wb, wp, rfl, rfl, rfl, rfl, rfl, hab, hb, hN, hl, HW⟩ := hrel
  by_cases h12 : b1 ≤ a1 + 12
  ·have hz : (b1 : Int) - (a1 : Int) ≤ 12 := by omega
   have F := hid0 (ins_any (cap := cap) HW.out.row hab hb (by omega))
   go_wp2_with fail
   refine (F.out).mono ?_
   rintro e w1 ⟨rfl, P1⟩
   go_wp2_with fail
   (try simp only [Exit.inBlock, Exit.then]); refine bodyPost_ret (results_none rfl _ _ _) rfl ?_
   exact ⟨rfl, HW.out.trans P1⟩
  ·have hz : ¬ ((b1 : Int) - (a1 : Int) ≤ 12) := by omega
   by_cases hl0 : l1 = 0
   ·have hz0 : ((l1 : Int) == 0) = true := by simp [hl0]
    have F := hid0 (heap_any (cap := cap) HW.out.row (show a1 < b1 by omega) hb hn)
    go_wp2_with fail
    refine (F.out).mono ?_
    rintro e w1 ⟨rfl, P1⟩
    go_wp2_with fail
    (try simp only [Exit.inBlock, Exit.then]); refine bodyPost_ret (results_none rfl _ _ _) rfl ?_
    exact ⟨rfl, HW.out.trans P1⟩
   ·have hz0 : ((l1 : Int) == 0) = false := by simp; omega
    go_upto_if 35 with fail
    go_cut [3] (fun sx wx => ∃ l2 : Nat, sx = .int .i64 (l2 : Int) ∧ l2 ≤ 100 ∧ Hid (RwP w g off n sz wx))
    case first =>
     cases wb with
     | true =>
      go_wp2_with fail
      go_meet
      case rel => exact ⟨l1, rfl, hl, HW⟩
     | false =>
      have F := hid0 (brk_any (cap := cap) HW.out.row (show a1 + 12 ≤ b1 by omega) hb hn)
      go_wp2_with fail
      refine (F.out).mono ?_
      rintro e w1 ⟨rfl, P1⟩
      have HW1 := hid0 (HW.out.trans P1)
      clear P1 F
      go_wp2_with fail
      go_meet
      case rel => exact ⟨l1 - 1, by congr 1; omega, by omega, HW1⟩
    case rest =>
     obtain ⟨l2, rfl, hl2, HW1⟩ := hcut
     clear HW hl0 hz0 hl
     have F := hid0 (pivot_any (cap := cap) HW1.out.row (show a1 + 12 ≤ b1 by omega) hb (by omega))
     go_wp2_with fail
     refine (F.out).mono ?_
     rintro e w2 ⟨p, h, rfl, hp, P2⟩
     have HW2 := hid0 (HW1.out.trans P2)
     clear P2 F HW1
     go_upto_if 50 with fail
     go_cut [11, 12] (fun s11 s12 wx => ∃ (p2 : Nat) (h2 : Int), s11 = .int .i64 (p2 : Int) ∧ s12 = .int .i64 h2 ∧ (a1 ≤ p2 ∧ p2 < b1) ∧ Hid (RwP w g off n sz wx))
     case first =>
      by_cases h2 : h = 2
      ·have hz2 : (h == 2) = true := by simp [h2]
       have F := hid0 (rev_any (cap := cap) HW2.out.row (show a1 < b1 by omega) hb (by omega))
       clear h2
       go_wp2_with fail
       refine (F.out).mono ?_
       rintro e w3 ⟨rfl, P3⟩
       have HW3 := hid0 (HW2.out.trans P3)
       clear P3 F
       go_wp2_with fail
       go_meet
       case rel => exact ⟨b1 - 1 - (p - a1), 1, by congr 1; omega, rfl, by omega, HW3⟩
      ·have hz2 : (h == 2) = false := by simp [h2]
       clear h2
       go_wp2_with fail
       go_meet
       case rel => exact ⟨p, h, rfl, rfl, hp, HW2⟩
     case rest =>
      obtain ⟨p2, h2, rfl, rfl, hp2, HW3⟩ := hcut
      clear HW2 hp
      go_upto_region 15 with fail
      go_cut [68] (fun sx wx => ∃ c : Nat, sx = .bool (c == 1) ∧ Hid (RwP w g off n sz wx))
      case first =>
       cases wb with
       | false =>
        go_wp2_with fail
        go_meet
        case rel => exact ⟨0, rfl, HW3⟩
       | true =>
        cases wp with
        | false =>
         go_wp2_with fail
         go_meet
         case rel => exact ⟨0, rfl, HW3⟩
        | true =>
         by_cases h1 : h2 = 1
         ·have hz1 : (h2 == 1) = true := by simp [h1]
          clear h1
          go_wp2_with fail
          go_meet
          case rel => exact ⟨1, rfl, HW3⟩
         ·have hz1 : (h2 == 1) = false := by simp [h1]
          clear h1
          go_wp2_with fail
          go_meet
          case rel => exact ⟨0, rfl, HW3⟩
      case rest =>
       obtain ⟨c, rfl, HW4⟩ := hcut
       clear HW3
       go_upto_if 68 with fail
       go_cut [11] (fun sx wx => sx = .int .i64 (p2 : Int) ∧ Hid (RwP w g off n sz wx))
       case first =>
        by_cases hc : c = 1
        ·have hzc : (c == 1) = true := by simp [hc]
         have F := hid0 (pins_any (cap := cap) HW4.out.row (show a1 + 2 ≤ b1 by omega) hb hn)
         clear hc
         go_wp2_with fail
         refine (F.out).mono ?_
         rintro e w5 ⟨t, rfl, P5⟩
         have HW5 := hid0 (HW4.out.trans P5)
         clear P5 F
         cases t with
         | true =>
          go_wp2_with fail
          (try simp only [Exit.inBlock, Exit.then]); refine bodyPost_ret (results_none rfl _ _ _) rfl ?_
          exact ⟨rfl, HW5.out⟩
         | false =>
          go_wp2_with fail
          go_meet
          case rel => exact ⟨rfl, HW5⟩
        ·have hzc : (c == 1) = false := by simp [hc]
         clear hc
         go_wp2_with fail
         go_meet
         case rel => exact ⟨rfl, HW4⟩
       case rest =>
        obtain ⟨rfl, HW5⟩ := hcut
        clear HW4
        go_upto_region 17 with fail
        go_cut [87] (fun sx wx => ∃ c2 : Nat, sx = .bool (c2 == 1) ∧ Hid (RwP w g off n sz wx))
        case first =>
         obtain ⟨G, hcw, hfw⟩ := HW5.out.row.fam
         by_cases ha0 : 0 < a1
         ·have hza : (0 : Int) < (a1 : Int) := by omega
          go_big_quiet (first | (go_at_call 154; refine Calls.quiet_of_same (less_any _ _ _)))
          go_wp2_with fail
          go_meet
          case rel => exact ⟨if G (a1 - 1) < G p2 then 0 else 1, by (by_cases hG : G (a1 - 1) < G p2) <;> simp [hG], HW5.out.drewN _⟩
         ·have hza : decide ((0 : Int) < (a1 : Int)) = false := decide_eq_false (by omega)
          go_big_quiet (first | (go_at_call 154; refine Calls.quiet_of_same (less_any _ _ _)))
          go_wp2_with fail
          go_meet
          case rel => exact ⟨0, rfl, HW5.out.drewN _⟩
        case rest =>
         obtain ⟨c2, rfl, HW6⟩ := hcut
         clear HW5
         by_cases hc2 : c2 = 1
         ·have hzc : (c2 == 1) = true := by simp [hc2]
          have F := hid0 (peq_any (cap := cap) HW6.out.row (show a1 + 2 ≤ b1 by omega) hb hn hp2)
          clear hc2
          go_wp2_with fail
          refine (F.out).mono ?_
          rintro e w7 ⟨m, rfl, hm, P7⟩
          have HW7 := hid0 (HW6.out.trans P7)
          clear P7 F HW6
          go_wp2_with fail
          go_roundw
          case rel => exact ⟨m, b1, l2, wb, wp, rfl, rfl, rfl, rfl, rfl, by omega, hb, by omega, hl2, HW7⟩
          case measure => simp [intOf0] <;> omega
         ·have hzc : (c2 == 1) = false := by simp [hc2]
          have F := hid0 (par_any (cap := cap) HW6.out.row (show a1 + 2 ≤ b1 by omega) hb hn hp2)
          clear hc2
          go_wp2_with fail
          refine (F.out).mono ?_
          rintro e w7 ⟨m, t, rfl, hm, P7⟩
          have HW7 := hid0 (HW6.out.trans P7)
          clear P7 F HW6
          have FL := hid0 (HIH.out (m - a1) (by omega) w7 a1 m l2 (Nat.le_refl _) HW7.out.row (by omega) (by omega) hl2)
          have FR := HIH.out (b1 - (m + 1)) (by omega) w7 (m + 1) b1 l2 (Nat.le_refl _) HW7.out.row (by omega) (by omega) hl2
          rw [show ((m + 1 : Nat) : Int) = (m : Int) + 1 by omega] at FR
          have FR := hid0 FR
          by_cases hlr : m - a1 < b1 - m
          ·have hzl : (m : Int) - (a1 : Int) < (b1 : Int) - (m : Int) := by omega
           go_wp2_with fail
           refine (FL.out).mono ?_
           rintro e w8 ⟨rfl, P8⟩
           have HW8 := hid0 (HW7.out.trans P8)
           clear P8 FL FR HW7
           go_wp2_with fail
           go_roundw
           case rel => exact ⟨m + 1, b1, l2, _, t, by go_num, rfl, rfl, rfl, rfl, by omega, hb, by omega, hl2, HW8⟩
           case measure => simp [intOf0] <;> omega
          ·have hzl : ¬ ((m : Int) - (a1 : Int) < (b1 : Int) - (m : Int)) := by omega
           go_wp2_with fail
           refine (FR.out).mono ?_
           rintro e w8 ⟨rfl, P8⟩
           have HW8 := hid0 (HW7.out.trans P8)
           clear P8 FL FR HW7
           go_wp2_with fail
           go_roundw
           case rel => exact ⟨a1, m, l2, _, t, rfl, rfl, rfl, rfl, rfl, by omega, by omega, by omega, hl2, HW8⟩
           case measure => simp [intOf0] <;> omega
set_option maxRecDepth 100000
theorem len_any (x : Nat) (hx : x < 1000000000) (w : World) : Calls Tryz.prog 120 #[.int .u64 (x : Int)] w fun e w' => ∃ l : Nat, e = .returned (.int .i64 (l : Int)) ∧ l ≤ 100 ∧ w' = w := by
 have h := Any.bits_Len (SlLaysF0.n15.bits (P := Tryz.prog) (ρ := Tryz.sortSp_ren) { Tryz.sortSp with }) (x : Int) w (by omega) (by omega)
 refine Calls.mono h ?_
 rintro e w' ⟨rfl, rfl⟩
 refine ⟨Lib.bitLen x, by simp, ?_, rfl⟩
 rw [bitLen_eq x (by omega)]
 have := (bitsLen_le_iff x 30).2 (by omega)
 omega
theorem insNil_any (w : World) : Calls Tryz.prog 148 #[.slice none 0 0, .int .i64 0, .int .i64 0] w fun e w' => e = .returned (.tuple #[]) ∧ w' = w := by
 go_enter Tryz.func148, Tryz.ntmps148
 go_wp2_with fail
 go_loopw [6] (fun vi wr => vi = .int .i64 1 ∧ wr = w) (fun vi _ => 0)
 case atStart => exact ⟨rfl, rfl⟩
 case round =>
  obtain ⟨rfl, rfl⟩ := hrel
  go_wp2_with fail
  go_end0
  exact ⟨rfl, rfl⟩
theorem pdqNil_any (w : World) (lim : Int) : Calls Tryz.prog 119 #[.slice none 0 0, .int .i64 0, .int .i64 0, .int .i64 lim] w fun e w' => e = .returned (.tuple #[]) ∧ w' = w := by
 go_enter Tryz.func119, Tryz.ntmps119
 go_wp2_with fail
 go_loopw [1, 2] (fun va vb wr => va = .int .i64 0 ∧ vb = .int .i64 0 ∧ wr = w) (fun _ _ _ => 0)
 case atStart => exact ⟨rfl, rfl, rfl⟩
 case round =>
  obtain ⟨rfl, rfl, rfl⟩ := hrel
  go_wp2_with fail
  refine (insNil_any _).mono ?_
  rintro e w1 ⟨rfl, rfl⟩
  go_wp2_with fail
  (try simp only [Exit.inBlock, Exit.then]); refine bodyPost_ret (results_none rfl _ _ _) rfl ?_
  exact ⟨rfl, rfl⟩
set_option maxHeartbeats 1000000 in
theorem sort_any {w : World} {g n sz cap : Nat} (hR : RowOk w g 0 n sz) (hn : n < 1000000000) :
  Calls Tryz.prog 90 #[.slice (some ⟨g, 0, none⟩) n cap] w fun e w' => e = .returned (.tuple #[]) ∧ RwP w g 0 n sz w' := by
 have F := hid0 (len_any n hn w)
 have hu : IntKind.u64.wrap (n : Int) = n := by simp [IntKind.wrap, IntKind.bits, IntKind.signed]; omega
 have HR := hid0 hR
 clear hR
 go_enter Tryz.func90, Tryz.ntmps90
 go_wp2_with fail
 refine (F.out).mono ?_
 rintro e w1 ⟨l, rfl, hl, rfl⟩
 have F2 := hid0 (pdq_any (cap := cap) hn n w1 0 n l (by omega) HR.out (by omega) (Nat.le_refl _) hl)
 go_wp2_with fail
 refine (F2.out).mono ?_
 rintro e w2 ⟨rfl, P⟩
 go_wp2_with fail
 go_end0
 exact ⟨rfl, P⟩
set_option maxHeartbeats 1000000 in
theorem sortNil_any (w : World) : Calls Tryz.prog 90 #[.slice none 0 0] w fun e w' => e = .returned (.tuple #[]) ∧ w' = w := by
 have F := hid0 (len_any 0 (by omega) w)
 go_enter Tryz.func90, Tryz.ntmps90
 go_wp2_with fail
 refine (F.out).mono ?_
 rintro e w1 ⟨l, rfl, hl, rfl⟩
 go_wp2_with fail
 refine (pdqNil_any _ _).mono ?_
 rintro e w2 ⟨rfl, rfl⟩
 go_wp2_with fail
 go_end0
 exact ⟨rfl, rfl⟩
theorem compactNil_any (w : World) : Calls Tryz.prog 91 #[.slice none 0 0] w fun e w' => e = .returned (.slice none 0 0) ∧ w' = w := by
 go_enter Tryz.func91, Tryz.ntmps91
 go_wp2_with fail
 go_ret
 exact ⟨rfl, rfl⟩
def CmpP (w : World) (g : Nat) : Ending → World → Prop := fun e w' => ∃ ao k c, e = .returned (.slice ao k c) ∧ Kept (fun i => i = g) w w'
theorem setCells_kept {w w1 : World} {g : Nat} (h : Kept (fun i => i = g) w w1) : ∀ (vs : List Value) (o : Nat), Kept (fun i => i = g) w (w1.setCells g o vs) := by
 intro vs
 induction vs generalizing w1 with
 | nil => intro o; exact h
 | cons v vs ih => intro o; exact ih (h.setCell (p := ⟨g, o, none⟩) (Or.inl rfl) v) (o + 1)
set_option maxHeartbeats 4000000 in
theorem compact_any {w : World} {g n sz cap : Nat} (hR : RowOk w g 0 n sz) (hn : n < 1000000000) (hcap : n ≤ cap ∧ cap ≤ maxLen) :
  Calls Tryz.prog 91 #[.slice (some ⟨g, 0, none⟩) n cap] w (CmpP w g) := by
 have HW0 := hid0 (RwP.refl hR)
 clear hR
 by_cases h2 : n < 2
 ·have hz : (n : Int) < 2 := by omega
  go_enter Tryz.func91, Tryz.ntmps91
  go_wp2_with fail
  go_ret
  exact ⟨_, _, _, rfl, Kept.refl _ _⟩
 ·have hz : ¬ ((n : Int) < 2) := by omega
  go_enter Tryz.func91, Tryz.ntmps91
  go_wp2_with fail
  go_loopw [3] (fun vk wr => ∃ k : Nat, vk = .int .i64 (k : Int) ∧ 1 ≤ k ∧ k ≤ n ∧ Hid (RwP w g 0 n sz wr)) (fun vk _ => n - (intOf0 vk).toNat)
  case atStart => exact ⟨1, rfl, by omega, by omega, HW0⟩
  case round =>
   clear HW0
   obtain ⟨k, rfl, hk1, hk2, HW⟩ := hrel
   by_cases hk : k < n
   ·have hzk : (k : Int) < (n : Int) := by omega
    obtain ⟨G, hcw', hfw'⟩ := HW.out.row.fam
    have hcw : ∀ t, t < n → wr.cell? ⟨g, t, none⟩ = some (.int .i32 (G t)) := fun t ht => by have := hcw' t ht; simpa using this
    clear hcw' hfw'
    have d0 := hcw k hk
    have d1 := hcw (k - 1) (by omega)
    go_wp2_with fail
    go_quiet (first | (go_at_call 154; refine Calls.quiet_of_same (less_any _ _ _)))
    have HW1 := hid0 (HW.out.drewN nq)
    clear hcw d0 d1 HW
    generalize wr.drewN nq = wr1 at HW1 ⊢
    by_cases hG : G k = G (k - 1)
    ·have hzG : (G k == G (k - 1)) = true := by simp [hG]
     have hkc : (k : Int) ≤ (n : Int) := by omega
     have hkc2 : k ≤ cap := by omega
     clear hG
     go_wp2_with fail
     go_loopw [3, 5] (fun vk vk2 wr => ∃ k3 k2 : Nat, vk = .int .i64 (k3 : Int) ∧ vk2 = .int .i64 (k2 : Int) ∧ 1 ≤ k2 ∧ k2 ≤ n - k ∧ k ≤ k3 ∧ k3 + 1 ≤ k + k2 ∧ Hid (RwP w g 0 n sz wr)) (fun _ vk2 _ => n - (intOf0 vk2).toNat)
     case atStart => exact ⟨k, 1, rfl, rfl, by omega, by omega, by omega, by omega, HW1⟩
     case round =>
      obtain ⟨k3, k2, rfl, rfl, hs1, hs2, hs3, hs4, HWs⟩ := hrel
      clear HW1
      obtain ⟨G2, hcw', hfw'⟩ := HWs.out.row.fam
      have hcw : ∀ t, t < n → wr.cell? ⟨g, t, none⟩ = some (.int .i32 (G2 t)) := fun t ht => by have := hcw' t ht; simpa using this
      have hfw : ∀ t, t < n → wr.frozen? ⟨g, t, none⟩ = false := fun t ht => by have := hfw' t ht; simpa using this
      clear hcw' hfw'
      by_cases hk22 : k2 < n - k
      ·have hz2 : (k2 : Int) < ((n - k : Nat) : Int) := by omega
       have d0 := hcw (k + k2) (by omega)
       have d1 := hcw (k + (k2 - 1)) (by omega)
       go_wp2_with fail
       go_quiet (first | (go_at_call 154; refine Calls.quiet_of_same (less_any _ _ _)))
       have HWt := hid0 (HWs.out.drewN nq)
       have c3 : (wr.drewN nq).cell? ⟨g, k3, none⟩ = some (.int .i32 (G2 k3)) := hcw k3 (by omega)
       have f3 : (wr.drewN nq).frozen? ⟨g, k3, none⟩ = false := hfw k3 (by omega)
       have d2 : (wr.drewN nq).cell? ⟨g, k + k2, none⟩ = some (.int .i32 (G2 (k + k2))) := d0
       clear hcw hfw d0 d1 HWs
       generalize wr.drewN nq = wr2 at HWt c3 f3 d2 ⊢
       by_cases hG : G2 (k + k2) = G2 (k + (k2 - 1))
       ·have hzG : (G2 (k + k2) != G2 (k + (k2 - 1))) = false := by simp [hG]
        clear hG
        go_wp2_with fail
        go_roundw
        case rel => exact ⟨k3, k2 + 1, rfl, by go_num, by omega, by omega, by omega, by omega, HWt⟩
        case measure => simp [intOf0] <;> omega
       ·have hzG : (G2 (k + k2) != G2 (k + (k2 - 1))) = true := by simp [hG]
        clear hG
        go_wp2_with fail
        go_roundw
        case rel => exact ⟨k3 + 1, k2 + 1, by go_num, by go_num, by omega, by omega, by omega, by omega, hid0 (by have := HWt.out.put (show k3 < n by omega) (G2 (k + k2)); simpa using this)⟩
        case measure => simp [intOf0] <;> omega
      ·have hz2 : ¬ ((k2 : Int) < ((n - k : Nat) : Int)) := by omega
       have hcl : ∀ ty, (Builtin.clear_ #[85] ty #[.slice (some ⟨g, k3, none⟩) (n - k3) (cap - k3)]).run Tryz.prog wr = .ok (.tuple #[]) (wr.setCells g k3 (List.replicate (n - k3) (.int .i32 0))) :=
        fun ty => Lib.run_clear_slice wr _ 21 ty _ Tryz.underlying85 (by intro w; rfl) rfl rfl g k3 _ _ (by omega) (fun j hj => by rw [hcw (k3 + j) (by omega)]; rfl) (fun j hj => hfw (k3 + j) (by omega))
       have hk3 : (k3 : Int) ≤ (n : Int) := by omega
       have hk4 : k3 ≤ cap := by omega
       have HK := hid0 (setCells_kept HWs.out.kept (List.replicate (n - k3) (.int .i32 0)) k3)
       clear hcw hfw HWs
       go_wp2_with fail
       go_ret
       exact ⟨_, _, _, rfl, HK.out⟩
    ·have hzG : (G k == G (k - 1)) = false := by simp [hG]
     clear hG
     go_wp2_with fail
     go_roundw
     case rel => exact ⟨k + 1, by go_num, by omega, by omega, HW1⟩
     case measure => simp [intOf0] <;> omega
   ·have hzk : ¬ ((k : Int) < (n : Int)) := by omega
    go_wp2_with fail
    go_ret
    exact ⟨_, _, _, rfl, HW.out.kept⟩
end Go.Proofs.YtfollffpibmgcaaGreatDoor
