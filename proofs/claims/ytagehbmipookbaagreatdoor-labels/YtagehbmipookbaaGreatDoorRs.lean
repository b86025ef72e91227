/- The reference: the size of a node; the tree of a whole pattern. -/
import Derived.Test.YtagehbmipookbaaGreatDoorAl1
import Derived.Test.YtagehbmipookbaaGreatDoorSz
namespace Go.Proofs.YtagehbmipookbaaGreatDoor
open Go.RowKit Go.Maps
set_option linter.unusedVariables false
set_option maxRecDepth 100000

theorem alt_all (g : RG) : ∀ k, AltT g k
  | 0 => fun _ _ _ _ _ _ _ h => absurd h (by omega)
  | k + 1 => alt_tr (alt_all g k)

theorem NdAt.size_range {w : World} {U : Nat → Prop} {b : Nat} {T : PT} {R : RT} (h : NdAt w U b T R) : 0 ≤ T.size ∧ T.size ≤ 1001 := by
  induction h with
  | mk b op sp aos caps bs nt fd lz grp least most kk l hh ao cap bk ts rs P hblk hlo hop hlm hb hc hl hk hr hsp ih =>
    have hs := sizes_range ts (fun i h => ih i h (by omega))
    obtain ⟨r1, r2, r3, r4⟩ := hr
    have hc := copies_range r1 r2
    have hm := mul_range hc (s := PT.sizes ts + 1) (by omega)
    unfold PT.size
    simp only
    have hne : kk = 3 → 0 < ts.length := fun e => List.length_pos_iff.2 (r4 e)
    refine ⟨?_, by omega⟩
    have : 0 ≤ (if kk = 0 ∨ kk = 1 then PT.sizes ts + 1 else if kk = 3 then PT.sizes ts + ((ts.length : Int) - 1) else if kk = 4 then (if hh = -1 then l + 1 else hh) * (PT.sizes ts + 1) else PT.sizes ts) := by
      split
      · omega
      · split
        · rename_i e; have := hne e; omega
        · split
          · exact hm.1
          · exact hs.1
    omega

theorem Size_ref {w : World} {U : Nat → Prop} {b : Nat} {T : PT} {R : RT} (h : NdAt w U b T R) : ∀ w', Kept Nil w w' →
    Calls Tryz.prog 14 #[.pointer (some ⟨b, 0, none⟩)] w' fun e w'' => e = .returned (.int .i64 T.size) ∧ Kept Nil w' w'' := by
  induction h with
  | mk b op sp aos caps bs nt fd lz grp least most kk l hh ao cap bk ts rs P hblk hlo hop hlm hb hc hl hk hr hsp ih =>
    intro w' hw
    have IH : Hid (∀ i (h : i < ts.length) (w' : World), Kept Nil w w' → Calls Tryz.prog 14 #[.pointer (some ⟨P i, 0, none⟩)] w' fun e w'' => e = .returned (.int .i64 (ts[i]).size) ∧ Kept Nil w' w'') := fun i h => ih i h (by omega)
    have hkr : ∀ i, (h : i < ts.length) → 0 ≤ (ts[i]).size ∧ (ts[i]).size ≤ 1001 := fun i h => (hk i h (by omega)).size_range
    have HS := sizes_range ts hkr
    clear ih hk hsp hl
    obtain ⟨r1, r2, r3, r4⟩ := hr
    have x0 := hblk.kept hw (fun hx => hx)
    go_enter Tryz.func14, Tryz.ntmps14
    go_wp2_with fail
    go_loopg [3, 4] ts.length (fun kk s i wr => ∃ j : Nat, j ≤ ts.length ∧ i = .int .i64 j ∧ s = .int .i64 (PT.sizes (ts.take j)) ∧ kk = ts.length - j ∧ Kept Nil w' wr ∧ Blk wr b (nodeCells op (.slice aos sp.length caps) nt fd (.slice ao ts.length cap) grp least most lz) 77)
    case atStart => exact ⟨0, Nat.zero_le _, rfl, by simp [PT.sizes], rfl, Kept.refl _ _, x0⟩
    case round =>
      obtain ⟨j, hj, rfl, rfl, rfl, hkw, hbw⟩ := hrel
      have hsj := sizes_range (ts.take j) (fun i hi => by have := hkr i (by simp at hi; omega); simpa using this)
      have hlj : (ts.take j).length ≤ 400 := by simp; omega
      have d4 : wr.cell? ⟨b, 4, none⟩ = some (.slice ao ts.length cap) := hbw.cell 4
      by_cases hlt : j < ts.length
      · obtain ⟨rfl, b1⟩ := hb (by intro e; subst e; simp at hlt)
        have hcj := hc j hlt
        have kk := hw.trans hkw
        have q0 : wr.cell? ⟨bk, j, none⟩ = some (.pointer (some ⟨P j, 0, none⟩)) := (kk.cell (p := ⟨bk, j, none⟩) (cell_lt hcj) (fun hx => hx)).trans hcj
        have hkj := hkr j hlt
        have STK : Hid (PT.sizes (ts.take (j + 1)) = PT.sizes (ts.take j) + (ts[j]).size) := sizes_take ts j hlt
        have hjI : (j : Int) < (ts.length : Int) := by omega
        clear hb hc hcj hkr
        have IHJ : Hid (∀ (w' : World), Kept Nil w w' → Calls Tryz.prog 14 #[.pointer (some ⟨P j, 0, none⟩)] w' fun e w'' => e = .returned (.int .i64 (ts[j]).size) ∧ Kept Nil w' w'') := IH.out j hlt
        clear IH
        go_wp2_with fail
        refine (IHJ.out _ kk).mono ?_
        rintro e w2 ⟨rfl, hk2⟩
        have hb2 := hbw.kept hk2 (fun hx => hx)
        have kw2 := hkw.trans hk2
        clear q0 hk2 hbw hkw
        go_wp2_with fail
        go_roundg (ts.length - (j + 1))
        case measure => omega
        case rel => exact ⟨j + 1, by omega, by go_num, by rw [STK.out], rfl, kw2, hb2⟩
      · have ej : j = ts.length := by omega
        subst ej
        rw [List.take_length] at hsj hlj ⊢
        have hjI : ¬ ((ts.length : Nat) : Int) < (ts.length : Int) := by omega
        have hcr := copies_range r1 r2
        have hm := mul_range hcr (s := PT.sizes ts + 1) (by omega)
        clear IH hb hc hkr
        rcases hop with ⟨rfl, rfl⟩ | ⟨rfl, rfl⟩ | ⟨rfl, rfl⟩ | ⟨hk01, o1, o2, o3⟩
        · have d0 : wr.cell? ⟨b, 0, none⟩ = some (.string ⟨#[115, 101, 113]⟩) := hbw.cell 0
          go_wp2_with fail
          all_goals go_ret
          all_goals exact ⟨ret_int (by unfold PT.size; simp; omega), hkw⟩
        · have d0 : wr.cell? ⟨b, 0, none⟩ = some (.string ⟨#[97, 108, 116]⟩) := hbw.cell 0
          have hpos : 0 < ts.length := List.length_pos_iff.2 (r4 rfl)
          go_wp2_with fail
          all_goals go_ret
          all_goals exact ⟨ret_int (by unfold PT.size; simp; omega), hkw⟩
        · have d0 : wr.cell? ⟨b, 0, none⟩ = some (.string ⟨#[116, 105, 109, 101, 115]⟩) := hbw.cell 0
          obtain ⟨rfl, rfl⟩ := hlm rfl
          have d6 : wr.cell? ⟨b, 6, none⟩ = some (.int .i64 least) := hbw.cell 6
          have d7 : wr.cell? ⟨b, 7, none⟩ = some (.int .i64 most) := hbw.cell 7
          by_cases hmo : most = -1
          · have hneg : most < 0 := by omega
            have HCC : Hid ((if most = -1 then least + 1 else most) = least + 1) := if_pos hmo
            rw [if_pos hmo] at hcr hm
            clear hmo
            go_wp2_with fail
            all_goals go_ret
            all_goals exact ⟨ret_int (by unfold PT.size; simp only [HCC.out]; simp; omega), hkw⟩
          · have hneg : ¬ most < 0 := by omega
            have HCC : Hid ((if most = -1 then least + 1 else most) = most) := if_neg hmo
            rw [if_neg hmo] at hcr hm
            clear hmo
            go_wp2_with fail
            all_goals go_ret
            all_goals exact ⟨ret_int (by unfold PT.size; simp only [HCC.out]; simp; omega), hkw⟩
        · have d0 : wr.cell? ⟨b, 0, none⟩ = some (.string op) := hbw.cell 0
          go_wp2_with fail
          all_goals go_ret
          all_goals (refine ⟨ret_int ?_, hkw⟩)
          all_goals (unfold PT.size; rcases hk01 with rfl | rfl <;> simp <;> omega)
end Go.Proofs.YtagehbmipookbaaGreatDoor
