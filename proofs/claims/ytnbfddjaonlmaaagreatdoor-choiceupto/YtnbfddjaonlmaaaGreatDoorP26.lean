/- The sorter's visit does what the mirror says. -/
import Derived.Test.YtnbfddjaonlmaaaGreatDoorP25
import Derived.Test.YtnbfddjaonlmaaaGreatDoorP19
namespace Go.Proofs.YtnbfddjaonlmaaaGreatDoor
open Go.RowKit Go.Maps
set_option linter.unusedVariables false
set_option maxRecDepth 100000


set_option maxHeartbeats 4000000 in
theorem visit_take {w : World} {b base g c : Nat} {nv ov lv : Value} {vs : List Sv} {M : List MS} {V : VS} {s : Nat} {m : MS} (h : SoAt w b base (.slice (some ⟨g, 0, none⟩) M.length c) nv ov lv V) (hM : StsAt w g vs M) (hgb : g < base) (hn : V.num[s]? = some (-1)) (hm : M[s]? = some m) (hk : m.kind = 1) (hnx : 0 ≤ m.next) (hfew : V.ord.length ≤ 9000) (hfl : V.lat.length ≤ 9000) :
    Calls Tryz.prog 50 #[.pointer (some ⟨b, 0, none⟩), .int .i64 (s : Int)] w (VPost w b base g (.slice (some ⟨g, 0, none⟩) M.length c) nv ov lv vs M ((V.late m.next.toNat).put s)) := by
  have hlt := (List.getElem?_eq_some_iff.1 hn).1
  obtain ⟨i0, hi0, hz0, hz1, hz2⟩ := info_parts Tryz.infoInt0
  obtain ⟨gn, cn, rfl, g1, g2, g3, g4, g5⟩ := row_get h.num (by omega)
  obtain ⟨hsM, q, ⟨q1, q2, q3⟩, qc⟩ := hM.six hm
  obtain ⟨qk, qsa, qsn, qsc, qed, qsl, qnx, qot⟩ := q
  simp only at q1 q2 q3 qc
  subst q1 q2 q3
  have hbl := h.blk.lt
  have c0 : w.cell? ⟨b, 0, none⟩ = some (.slice (some ⟨g, 0, none⟩) M.length c) := h.blk.cell 0
  have c1 : w.cell? ⟨b, 1, none⟩ = some (.slice (some ⟨gn, 0, none⟩) V.num.length cn) := h.blk.cell 1
  have cs : w.cell? ⟨gn, s, none⟩ = some (.int .i64 (-1)) := by rw [g4 s hlt]; simp [intL, hn]
  have hi1 : ¬ ((V.num.length : Int) ≤ (s : Int)) := by omega
  have hi2 : ¬ ((M.length : Int) ≤ (s : Int)) := by omega
  obtain ⟨d0, d1, d2, d3, d4, d5⟩ := qc w hM
  have h1 := h.new ((Kept.refl Nil w).alloc (.cells #[.int .i64 m.kind, .slice qsa qsn qsc, .int .i64 qed, .int .i64 qsl, .int .i64 m.next, .int .i64 m.other] 94))
  have hM1 := hM.kept ((Kept.refl Nil w).alloc (.cells #[.int .i64 m.kind, .slice qsa qsn qsc, .int .i64 qed, .int .i64 qsl, .int .i64 m.next, .int .i64 m.other] 94)) (fun hx => hx)
  have w1 := (WentT.refl b w (.slice (some ⟨gn, 0, none⟩) V.num.length cn) ov lv).new ((Kept.refl Nil w).alloc (.cells #[.int .i64 m.kind, .slice qsa qsn qsc, .int .i64 qed, .int .i64 qsl, .int .i64 m.next, .int .i64 m.other] 94))
  have L1 := Blk.new w #[.int .i64 m.kind, .slice qsa qsn qsc, .int .i64 qed, .int .i64 qsl, .int .i64 m.next, .int .i64 m.other] 94
  have n1 : ¬ OwnT b (.slice (some ⟨gn, 0, none⟩) V.num.length cn) ov lv w.heap.size := fun hx => by have := h.own hx; omega
  obtain ⟨aol, col, hlv⟩ := ownsRow_slice h.lat
  subst hlv
  have c3 : w.cell? ⟨b, 3, none⟩ = some (.slice aol V.lat.length col) := h.blk.cell 3
  have hnx2 : ((m.next.toNat : Nat) : Int) = m.next := by omega
  have LR : Hid (∀ W, Kept Nil (w.alloc (.cells #[.int .i64 m.kind, .slice qsa qsn qsc, .int .i64 qed, .int .i64 qsl, .int .i64 m.next, .int .i64 m.other] 94)) W → W.ownsRow base 3 1 (.slice aol V.lat.length col) V.lat.length (natL V.lat)) := fun W k => ownsRow_kept h1.lat k (fun i _ hx => hx)
  have LG : Hid (∀ W w7 lv', Kept Nil (w.alloc (.cells #[.int .i64 m.kind, .slice qsa qsn qsc, .int .i64 qed, .int .i64 qsl, .int .i64 m.next, .int .i64 m.other] 94)) W → w7.ownsRow base 3 1 lv' (V.lat.length + 1) (natL V.lat ++ [.int .i64 m.next]) → W.grownBy w7 (Value.slice aol V.lat.length col).ownBlock → (lv'.ownBlock = (Value.slice aol V.lat.length col).ownBlock ∨ lv'.ownBlock = some W.heap.size) → Blk w7 b #[(.slice (some ⟨g, 0, none⟩) M.length c), (.slice (some ⟨gn, 0, none⟩) V.num.length cn), ov, .slice aol V.lat.length col] 112 ∧ SoAt (w7.setCell ⟨b, 3, none⟩ lv') b base (.slice (some ⟨g, 0, none⟩) M.length c) (.slice (some ⟨gn, 0, none⟩) V.num.length cn) ov lv' (V.late m.next.toNat) ∧ StsAt (w7.setCell ⟨b, 3, none⟩ lv') g vs M ∧ WentT b w (w7.setCell ⟨b, 3, none⟩ lv') (.slice (some ⟨gn, 0, none⟩) V.num.length cn) ov (.slice aol V.lat.length col) ov lv') := fun W w7 lv' k ho hg hl => by
    rw [← hnx2] at ho
    obtain ⟨r1, r2, r3⟩ := h1.lated m.next.toNat k ho hg hl
    exact ⟨r1, r2, hM1.kept r3.kept (fun hx => by have := h1.own hx; omega), w1.trans r3⟩
  have SZ0 : Hid (base ≤ w.heap.size) := by have := h.bb; show _ ≤ _; omega
  have NW : Hid (∀ j u, [Value.int .i64 m.next][j]? = some u → (((w.alloc (.cells #[.int .i64 m.kind, .slice qsa qsn qsc, .int .i64 qed, .int .i64 qsl, .int .i64 m.next, .int .i64 m.other] 94)).alloc (.cells #[.int .i64 m.next] 3)).drew).cell? (Addr.add ⟨w.heap.size + 1, 0, none⟩ j) = some u) := fun j u hu => natL_new2 _ m.next _ (by simp) j u hu
  clear h hM g4 g5 hn hm qc h1 hM1 w1 L1 n1
  have k1 : (m.kind == 1) = true := by simp [hk]
  clear hk
  go_enter Tryz.func50, Tryz.ntmps50
  go_wp2_with fail
  go_region_law (refine step_append_own rfl (.tmp 28) (.tmp 31) 22 rfl base 3 i0 _ 1 8 Tryz.underlying22 hi0 hz0 hz1 hz2 rfl (by decide) _ _ _ rfl (LR.out _ (by repeat first | exact Kept.refl _ _ | apply Kept.alloc | apply Kept.drew | apply Kept.drewN)) ⟨w.heap.size + 1, 0, none⟩ 1 1 [.int .i64 m.next] rfl rfl NW.out (int_one _) (by unfold maxLen; omega) (by omega) (by have := SZ0.out; simp; omega) ?_; intro v' w7 ho hg hl; obtain ⟨ao', c', rfl⟩ := ownsRow_slice ho; obtain ⟨b7, h4, hM4, k4⟩ := LG.out _ _ _ (by repeat first | exact Kept.refl _ _ | apply Kept.alloc | apply Kept.drew | apply Kept.drewN) ho hg hl; have c7 : w7.cell? ⟨b, 3, none⟩ = some (.slice aol V.lat.length col) := b7.cell 3; have f7 : w7.frozen? ⟨b, 3, none⟩ = false := b7.frozen 3)
  all_goals
    generalize w7.setCell ⟨b, 3, none⟩ (.slice ao' (V.lat.length + 1) c') = w4 at *
    have kk4 := k4
    have hfew : (V.late m.next.toNat).ord.length ≤ 9000 := hfew
    have FZ4 := h4.fz s
    obtain ⟨u4, CE4⟩ := h4.cel (s := s) (by first | omega | (simp only [VS.late]; omega))
    have hgnb : gn ≠ b := (h4.an gn rfl).1
    have hbgn : b ≠ gn := fun e => hgnb e.symm
    have hggn : g ≠ gn := by omega
    obtain ⟨ao4, co4, hov4⟩ := ownsRow_slice h4.ord
    subst hov4
    have E1 : (w4).cell? ⟨b, 1, none⟩ = some (.slice (some ⟨gn, 0, none⟩) V.num.length cn) := h4.blk.cell 1
    have E2 : (w4).cell? ⟨b, 2, none⟩ = some (.slice ao4 (V.late m.next.toNat).ord.length co4) := h4.blk.cell 2
    have TS : Hid (TlS b (.slice (some ⟨gn, 0, none⟩) V.num.length cn) (.slice ao4 (V.late m.next.toNat).ord.length co4) (w4).drew) := ⟨h4.blk.cell 1, h4.blk.cell 2⟩
    obtain ⟨HR, GR⟩ := tail_facts ((h4.number s ((V.late m.next.toNat).ord.length : Int)).new ((Kept.refl Nil _).drew)) ((hM4.number hggn _).kept ((Kept.refl Nil _).drew) (fun hx => hx)) ((kk4.number _).new ((Kept.refl Nil _).drew)) hgb
    have HR := hid HR
    have GR := hid GR
    have FZ : (w4).frozen? ⟨gn, s, none⟩ = false := FZ4
    have SZ : Hid (base ≤ (w4).heap.size) := by have := h4.bb; have := h4.blk.lt; show _ ≤ _; omega
    clear h4 hM4 kk4 k4 E1 b7 LR LG NW
    go_wp2_with fail
    refine wp_region_last (S := TlS b (.slice (some ⟨gn, 0, none⟩) V.num.length cn) (.slice ao4 (V.late m.next.toNat).ord.length co4)) 11 (by kernel_rfl) rfl rfl rfl (by kernel_rfl) (by kernel_rfl) ?_
    have hS0 := TS.out
    refine takeH 0 52 (.pointer (some ⟨b, 0, none⟩)) rfl rfl (by kernel_rfl) (by kernel_rfl) (by kernel_rfl) (fun _ _ _ h => h) (Or.inl ⟨by rfl, fun W hSW => by obtain ⟨s1, s2⟩ := hSW; go_simp⟩) hS0 ?_
    refine takeH 1 53 (.pointer (some ⟨b, 0, none⟩)) rfl rfl (by kernel_rfl) (by kernel_rfl) (by kernel_rfl) (fun _ _ _ h => h) (Or.inl ⟨by rfl, fun W hSW => by obtain ⟨s1, s2⟩ := hSW; go_simp⟩) hS0 ?_
    refine takeH 2 54 (.pointer (some ⟨b, 1, none⟩)) rfl rfl (by kernel_rfl) (by kernel_rfl) (by kernel_rfl) (fun _ _ _ h => h) (Or.inl ⟨by rfl, fun W hSW => by obtain ⟨s1, s2⟩ := hSW; go_simp⟩) hS0 ?_
    refine takeH 3 55 (.slice (some ⟨gn, 0, none⟩) V.num.length cn) rfl rfl (by kernel_rfl) (by kernel_rfl) (by kernel_rfl) (fun _ _ _ h => h) (Or.inl ⟨by rfl, fun W hSW => by obtain ⟨s1, s2⟩ := hSW; go_simp⟩) hS0 ?_
    refine takeH 4 56 (.int .i64 (s : Int)) rfl rfl (by kernel_rfl) (by kernel_rfl) (by kernel_rfl) (fun _ _ _ h => h) (Or.inl ⟨by rfl, fun W hSW => by obtain ⟨s1, s2⟩ := hSW; go_simp⟩) hS0 ?_
    refine takeH 5 57 (.pointer (some ⟨b, 0, none⟩)) rfl rfl (by kernel_rfl) (by kernel_rfl) (by kernel_rfl) (fun _ _ _ h => h) (Or.inl ⟨by rfl, fun W hSW => by obtain ⟨s1, s2⟩ := hSW; go_simp⟩) hS0 ?_
    refine takeH 6 58 (.pointer (some ⟨b, 0, none⟩)) rfl rfl (by kernel_rfl) (by kernel_rfl) (by kernel_rfl) (fun _ _ _ h => h) (Or.inl ⟨by rfl, fun W hSW => by obtain ⟨s1, s2⟩ := hSW; go_simp⟩) hS0 ?_
    refine takeH 7 59 (.pointer (some ⟨b, 2, none⟩)) rfl rfl (by kernel_rfl) (by kernel_rfl) (by kernel_rfl) (fun _ _ _ h => h) (Or.inl ⟨by rfl, fun W hSW => by obtain ⟨s1, s2⟩ := hSW; go_simp⟩) hS0 ?_
    refine takeH 8 60 (.slice ao4 (V.late m.next.toNat).ord.length co4) rfl rfl (by kernel_rfl) (by kernel_rfl) (by kernel_rfl) (fun _ _ _ h => h) (Or.inl ⟨by rfl, fun W hSW => by obtain ⟨s1, s2⟩ := hSW; go_simp⟩) hS0 ?_
    refine takeH 9 61 (.int .i64 ((V.late m.next.toNat).ord.length : Int)) rfl rfl (by kernel_rfl) (by kernel_rfl) (by kernel_rfl) (fun _ _ _ h => h) (Or.inl ⟨by rfl, fun W hSW => by obtain ⟨s1, s2⟩ := hSW; go_simp⟩) hS0 ?_
    refine takeH 10 62 (.pointer (some ⟨gn, s, none⟩)) rfl rfl (by kernel_rfl) (by kernel_rfl) (by kernel_rfl) (fun _ _ _ h => h) (Or.inl ⟨by rfl, fun W hSW => by obtain ⟨s1, s2⟩ := hSW; go_simp⟩) hS0 ?_
    simp only [Act.put, List.setIfInBounds_toArray, List.set_cons_zero, List.set_cons_succ]
    refine wpAnyH_done (by kernel_rfl) ?_ _
    unfold thenLast
    clear hS0
    simp only [List.getElem_toArray, List.getElem_cons_succ, List.getElem_cons_zero]
    go_simp
    go_wp2_with (at_builtin; refine wpList_append_own_at _ rfl _ _ 22 rfl base 3 i0 _ 1 8 Tryz.underlying22 hi0 hz0 hz1 hz2 rfl (by decide) _ _ _ rfl (HR.out _ ((Kept.refl _ _).alloc _)) _ 1 1 [.int .i64 (s : Int)] rfl rfl ?c1 ?c2 ?c3 ?c4 ?c5 ?_)
    case c1 => exact natL_new2 _ (s : Int) _ (by simp)
    case c2 => exact int_one _
    case c3 => unfold maxLen; omega
    case c4 => omega
    case c5 => have := SZ.out; simp; omega
    intro v' w7 hown' hgrow hnil hloc
    obtain ⟨ao', c', rfl⟩ := ownsRow_slice hown'
    obtain ⟨b7, fin, finM, went⟩ := GR.out _ _ _ ((Kept.refl _ _).alloc _) hown' hgrow (by simpa using hloc)
    have c7 : w7.cell? ⟨b, 2, none⟩ = some (.slice ao4 (V.late m.next.toNat).ord.length co4) := b7.cell 2
    have f7 : w7.frozen? ⟨b, 2, none⟩ = false := b7.frozen 2
    clear HR GR TS b7
    go_wp2_with fail
    go_end0
    exact ⟨rfl, _, _, fin, finM, went⟩


theorem visit_rd {b base g c : Nat} {nv : Value} {vs : List Sv} {M : List MS} (hgb : g < base) (hall : ∀ (i : Nat) (m : MS), M[i]? = some m → 0 ≤ m.next) {V V' : VS} {s : Int} (hv : Vis M V s V') : V'.ord.length ≤ 9000 → V'.lat.length ≤ 9000 →
    ∀ W ov lv, SoAt W b base (.slice (some ⟨g, 0, none⟩) M.length c) nv ov lv V → StsAt W g vs M → Calls Tryz.prog 50 #[.pointer (some ⟨b, 0, none⟩), .int .i64 s] W (VPost W b base g (.slice (some ⟨g, 0, none⟩) M.length c) nv ov lv vs M V') := by
  induction hv with
  | had V s v hn hv => intro _ _ W ov lv h hM; exact visit_had h hM hn hv
  | stop V s m hn hm hk =>
    intro h1 h2 W ov lv h hM
    exact visit_stop h hM hgb hn hm hk (by simp [VS.put] at h1; omega)
  | take V s m hn hm hk =>
    intro h1 h2 W ov lv h hM
    exact visit_take h hM hgb hn hm hk (hall s m hm) (by simp [VS.put, VS.late] at h1; omega) (by simp [VS.put, VS.late] at h2; omega)
  | one V V' s m hn hm hk hv ih =>
    intro h1 h2 W ov lv h hM
    have h1' : V'.ord.length ≤ 9000 := by simp [VS.put] at h1; omega
    exact visit_one h hM hgb hn hm hk (ih h1' h2) hv.grow.1 h1'
  | two V V' V2 s m hn hm hk hv hw ih ih' =>
    intro h1 h2 W ov lv h hM
    have h1' : V2.ord.length ≤ 9000 := by simp [VS.put] at h1; omega
    have h2' : V2.lat.length ≤ 9000 := h2
    have g1 := hv.grow
    have g2 := hw.grow
    exact visit_two h hM hgb hn hm hk (ih (by omega) (by omega)) (ih' h1' h2') g1.1 (by omega) h1'
end Go.Proofs.YtnbfddjaonlmaaaGreatDoor
