/- The sorter's visit does what the mirror says. -/
import Derived.Test.YtnbfddjaonlmaaaGreatDoorP24
import Derived.Test.YtnbfddjaonlmaaaGreatDoorP19
namespace Go.Proofs.YtnbfddjaonlmaaaGreatDoor
open Go.RowKit Go.Maps
set_option linter.unusedVariables false
set_option maxRecDepth 100000

/-- what visit does -/
def VPost (w : World) (b base g : Nat) (sv nv ov lv : Value) (vs : List Sv) (M : List MS) (V' : VS) : Ending → World → Prop := fun e w' => e = .returned (.tuple #[]) ∧ ∃ ov' lv', SoAt w' b base sv nv ov' lv' V' ∧ StsAt w' g vs M ∧ WentT b w w' nv ov lv ov' lv'
theorem natL_new (w : World) (t : Int) (j : Nat) (u : Value) (h : [Value.int .i64 t][j]? = some u) : (w.alloc (.cells #[.int .i64 t] 3)).cell? (Addr.add ⟨w.heap.size, 0, none⟩ j) = some u := new32 w #[.int .i64 t] 3 j u h
theorem natL_new2 (w : World) (t : Int) (k : Nat) (hk : w.heap.size = k) (j : Nat) (u : Value) (h : [Value.int .i64 t][j]? = some u) : (w.alloc (.cells #[.int .i64 t] 3)).drew.cell? (Addr.add ⟨k, 0, none⟩ j) = some u := by subst hk; exact natL_new w t j u h
theorem int_one (t : Int) : ∀ u ∈ [Value.int .i64 t], u.oneCell' = true := by intro u hu; simp at hu; subst hu; rfl

set_option maxHeartbeats 1000000 in
theorem visit_had {w : World} {b base g c : Nat} {nv ov lv : Value} {vs : List Sv} {M : List MS} {V : VS} {s : Nat} {v : Int} (h : SoAt w b base (.slice (some ⟨g, 0, none⟩) M.length c) nv ov lv V) (hM : StsAt w g vs M) (hn : V.num[s]? = some v) (hv : v ≠ -1) :
    Calls Tryz.prog 50 #[.pointer (some ⟨b, 0, none⟩), .int .i64 (s : Int)] w (VPost w b base g (.slice (some ⟨g, 0, none⟩) M.length c) nv ov lv vs M V) := by
  have hlt := (List.getElem?_eq_some_iff.1 hn).1
  obtain ⟨gn, cn, rfl, g1, g2, g3, g4, g5⟩ := row_get h.num (by omega)
  have c1 : w.cell? ⟨b, 1, none⟩ = some (.slice (some ⟨gn, 0, none⟩) V.num.length cn) := h.blk.cell 1
  have cs : w.cell? ⟨gn, s, none⟩ = some (.int .i64 v) := by rw [g4 s hlt]; simp [intL, hn]
  have hd : (v == -1) = false := by simpa using hv
  have hi1 : ¬ ((V.num.length : Int) ≤ (s : Int)) := by omega
  have POST := hid (And.intro h hM)
  clear h hM g4 g5 hn hv
  go_enter Tryz.func50, Tryz.ntmps50
  go_wp2_with fail
  go_end0
  exact ⟨rfl, ov, lv, POST.out.1, POST.out.2, WentT.refl _ _ _ _ _⟩
theorem SoAt.fz {w : World} {b base gn nn cn : Nat} {sv ov lv : Value} {V : VS} (h : SoAt w b base sv (.slice (some ⟨gn, 0, none⟩) nn cn) ov lv V) (s : Nat) : w.frozen? ⟨gn, s, none⟩ = false := by
  rcases h.num.2 with ⟨h1, _⟩ | ⟨g', cap, cur, hv, a1, a2, _⟩
  · cases h1
  · cases hv; simp [World.frozen?, a2]
theorem SoAt.cel {w : World} {b base gn nn cn : Nat} {sv ov lv : Value} {V : VS} (h : SoAt w b base sv (.slice (some ⟨gn, 0, none⟩) nn cn) ov lv V) {s : Nat} (hs : s < V.num.length) : ∃ u, w.cell? ⟨gn, s, none⟩ = some (.int .i64 u) := by
  obtain ⟨g', c', hx, _, _, _, h4, _⟩ := row_get h.num (by omega)
  cases hx
  exact ⟨V.num[s], by rw [h4 s hs]; simp [intL, hs]⟩
-- BODY

/-- what the last but one region reads -/
def TlS (b : Nat) (nv ov : Value) (w' : World) : Prop := w'.cell? ⟨b, 1, none⟩ = some nv ∧ w'.cell? ⟨b, 2, none⟩ = some ov

theorem tail_facts {w W5 : World} {b base g gn nn cn s : Nat} {sv ov lv ov4 lv4 : Value} {vs : List Sv} {M : List MS} {V4 : VS} (h5 : SoAt W5 b base sv (.slice (some ⟨gn, 0, none⟩) nn cn) ov4 lv4 ⟨V4.num.set s (V4.ord.length : Int), V4.ord, V4.lat⟩) (hM5 : StsAt W5 g vs M) (k5 : WentT b w W5 (.slice (some ⟨gn, 0, none⟩) nn cn) ov lv ov4 lv4) (hgb : g < base) :
      (∀ W, Kept Nil W5 W → W.ownsRow base 3 1 ov4 V4.ord.length (natL V4.ord)) ∧
      (∀ W w7 ov', Kept Nil W5 W → w7.ownsRow base 3 1 ov' (V4.ord.length + 1) (natL V4.ord ++ [.int .i64 (s : Int)]) → W.grownBy w7 ov4.ownBlock → (ov'.ownBlock = ov4.ownBlock ∨ ov'.ownBlock = some W.heap.size) →
        Blk w7 b #[sv, .slice (some ⟨gn, 0, none⟩) nn cn, ov4, lv4] 112 ∧ SoAt (w7.setCell ⟨b, 2, none⟩ ov') b base sv (.slice (some ⟨gn, 0, none⟩) nn cn) ov' lv4 (V4.put s) ∧ StsAt (w7.setCell ⟨b, 2, none⟩ ov') g vs M ∧ WentT b w (w7.setCell ⟨b, 2, none⟩ ov') (.slice (some ⟨gn, 0, none⟩) nn cn) ov lv ov' lv4) := by
  refine ⟨fun W kW => ownsRow_kept h5.ord kW (fun i _ hx => hx), fun W w7 ov' kW ho hg hl => ?_⟩
  obtain ⟨r1, r2, r3⟩ := h5.ordered s kW ho hg hl
  exact ⟨r1, r2, hM5.kept r3.kept (fun hx => by have := h5.own hx; omega), k5.trans r3⟩
theorem StsAt.number {w : World} {g gn s : Nat} {vs : List Sv} {M : List MS} (h : StsAt w g vs M) (hne : g ≠ gn) (u : Value) : StsAt (w.setCell ⟨gn, s, none⟩ u) g vs M := h.kept ((Kept.refl (fun i => i = gn) _).setCell (p := ⟨gn, s, none⟩) (Or.inl rfl) _) hne

set_option maxHeartbeats 2000000 in
theorem visit_stop {w : World} {b base g c : Nat} {nv ov lv : Value} {vs : List Sv} {M : List MS} {V : VS} {s : Nat} {m : MS} (h : SoAt w b base (.slice (some ⟨g, 0, none⟩) M.length c) nv ov lv V) (hM : StsAt w g vs M) (hgb : g < base) (hn : V.num[s]? = some (-1)) (hm : M[s]? = some m) (hk : m.kind ≠ 1 ∧ m.kind ≠ 2 ∧ m.kind ≠ 3 ∧ m.kind ≠ 4) (hfew : V.ord.length ≤ 9000) :
    Calls Tryz.prog 50 #[.pointer (some ⟨b, 0, none⟩), .int .i64 (s : Int)] w (VPost w b base g (.slice (some ⟨g, 0, none⟩) M.length c) nv ov lv vs M (V.put s)) := by
  have hlt := (List.getElem?_eq_some_iff.1 hn).1
  obtain ⟨i0, hi0, hz0, hz1, hz2⟩ := info_parts Tryz.infoInt0
  obtain ⟨gn, cn, rfl, g1, g2, g3, g4, g5⟩ := row_get h.num (by omega)
  obtain ⟨hsM, q, ⟨q1, q2, q3⟩, qc⟩ := hM.six hm
  obtain ⟨qk, qsa, qsn, qsc, qed, qsl, qnx, qot⟩ := q
  simp only at q1 q2 q3 qc
  subst q1 q2 q3
  have hbl := h.blk.lt
  have c0 : w.cell? ⟨b, 0, none⟩ = some (.slice (some ⟨g, 0, none⟩) M.length c) := h.blk.cell 0
  have c1 : w.cell? ⟨b, 1, none⟩ = some (.slice (some ⟨gn, 0, none⟩) V.num.length cn) := h.blk.cell 1
  have cs : w.cell? ⟨gn, s, none⟩ = some (.int .i64 (-1)) := by rw [g4 s hlt]; simp [intL, hn]
  have hi1 : ¬ ((V.num.length : Int) ≤ (s : Int)) := by omega
  have hi2 : ¬ ((M.length : Int) ≤ (s : Int)) := by omega
  obtain ⟨d0, d1, d2, d3, d4, d5⟩ := qc w hM
  have h1 := h.new ((Kept.refl Nil w).alloc (.cells #[.int .i64 m.kind, .slice qsa qsn qsc, .int .i64 qed, .int .i64 qsl, .int .i64 m.next, .int .i64 m.other] 94))
  have hM1 := hM.kept ((Kept.refl Nil w).alloc (.cells #[.int .i64 m.kind, .slice qsa qsn qsc, .int .i64 qed, .int .i64 qsl, .int .i64 m.next, .int .i64 m.other] 94)) (fun hx => hx)
  have w1 := (WentT.refl b w (.slice (some ⟨gn, 0, none⟩) V.num.length cn) ov lv).new ((Kept.refl Nil w).alloc (.cells #[.int .i64 m.kind, .slice qsa qsn qsc, .int .i64 qed, .int .i64 qsl, .int .i64 m.next, .int .i64 m.other] 94))
  have L1 := Blk.new w #[.int .i64 m.kind, .slice qsa qsn qsc, .int .i64 qed, .int .i64 qsl, .int .i64 m.next, .int .i64 m.other] 94
  have n1 : ¬ OwnT b (.slice (some ⟨gn, 0, none⟩) V.num.length cn) ov lv w.heap.size := fun hx => by have := h.own hx; omega
  have k1 : (m.kind == 1) = false := by simpa using hk.1
  have k2 : (m.kind == 2) = false := by simpa using hk.2.1
  have k3 : (m.kind == 3) = false := by simpa using hk.2.2.1
  have k4 : (m.kind == 4) = false := by simpa using hk.2.2.2
  have FZ4 : w.frozen? ⟨gn, s, none⟩ = false := g5 s
  have hgnb : gn ≠ b := (h.an gn rfl).1
  have hbgn : b ≠ gn := fun e => hgnb e.symm
  have hggn : g ≠ gn := by omega
  obtain ⟨ao4, co4, hov4⟩ := ownsRow_slice h.ord
  subst hov4
  have E1 : (w).cell? ⟨b, 1, none⟩ = some (.slice (some ⟨gn, 0, none⟩) V.num.length cn) := h.blk.cell 1
  have E2 : (w).cell? ⟨b, 2, none⟩ = some (.slice ao4 (V).ord.length co4) := h.blk.cell 2
  have TS : Hid (TlS b (.slice (some ⟨gn, 0, none⟩) V.num.length cn) (.slice ao4 (V).ord.length co4) (w.alloc (.cells #[.int .i64 m.kind, .slice qsa qsn qsc, .int .i64 qed, .int .i64 qsl, .int .i64 m.next, .int .i64 m.other] 94)).drew) := ⟨h1.blk.cell 1, h1.blk.cell 2⟩
  obtain ⟨HR, GR⟩ := tail_facts (((h.number s (V.ord.length : Int)).new ((Kept.refl Nil _).alloc (.cells #[.int .i64 m.kind, .slice qsa qsn qsc, .int .i64 qed, .int .i64 qsl, .int .i64 m.next, .int .i64 m.other] 94))).new ((Kept.refl Nil _).drew)) (((hM.number hggn _).kept ((Kept.refl Nil _).alloc (.cells #[.int .i64 m.kind, .slice qsa qsn qsc, .int .i64 qed, .int .i64 qsl, .int .i64 m.next, .int .i64 m.other] 94)) (fun hx => hx)).kept ((Kept.refl Nil _).drew) (fun hx => hx)) ((((WentT.refl b w (.slice (some ⟨gn, 0, none⟩) V.num.length cn) (.slice ao4 V.ord.length co4) lv).number _).new ((Kept.refl Nil _).alloc (.cells #[.int .i64 m.kind, .slice qsa qsn qsc, .int .i64 qed, .int .i64 qsl, .int .i64 m.next, .int .i64 m.other] 94))).new ((Kept.refl Nil _).drew)) hgb
  have HR := hid HR
  have GR := hid GR
  have FZ : (w).frozen? ⟨gn, s, none⟩ = false := FZ4
  have SZ : Hid (base ≤ (w).heap.size) := by have := h.bb; have := h.blk.lt; show _ ≤ _; omega
  clear h hM g4 g5 hn hm qc h1 hM1 w1 L1 n1 hk
  go_enter Tryz.func50, Tryz.ntmps50
  go_wp2_with fail
  refine wp_region_last (S := TlS b (.slice (some ⟨gn, 0, none⟩) V.num.length cn) (.slice ao4 (V).ord.length co4)) 11 (by kernel_rfl) rfl rfl rfl (by kernel_rfl) (by kernel_rfl) ?_
  have hS0 := TS.out
  refine takeH 0 52 (.pointer (some ⟨b, 0, none⟩)) rfl rfl (by kernel_rfl) (by kernel_rfl) (by kernel_rfl) (fun _ _ _ h => h) (Or.inl ⟨by rfl, fun W hSW => by obtain ⟨s1, s2⟩ := hSW; go_simp⟩) hS0 ?_
  refine takeH 1 53 (.pointer (some ⟨b, 0, none⟩)) rfl rfl (by kernel_rfl) (by kernel_rfl) (by kernel_rfl) (fun _ _ _ h => h) (Or.inl ⟨by rfl, fun W hSW => by obtain ⟨s1, s2⟩ := hSW; go_simp⟩) hS0 ?_
  refine takeH 2 54 (.pointer (some ⟨b, 1, none⟩)) rfl rfl (by kernel_rfl) (by kernel_rfl) (by kernel_rfl) (fun _ _ _ h => h) (Or.inl ⟨by rfl, fun W hSW => by obtain ⟨s1, s2⟩ := hSW; go_simp⟩) hS0 ?_
  refine takeH 3 55 (.slice (some ⟨gn, 0, none⟩) V.num.length cn) rfl rfl (by kernel_rfl) (by kernel_rfl) (by kernel_rfl) (fun _ _ _ h => h) (Or.inl ⟨by rfl, fun W hSW => by obtain ⟨s1, s2⟩ := hSW; go_simp⟩) hS0 ?_
  refine takeH 4 56 (.int .i64 (s : Int)) rfl rfl (by kernel_rfl) (by kernel_rfl) (by kernel_rfl) (fun _ _ _ h => h) (Or.inl ⟨by rfl, fun W hSW => by obtain ⟨s1, s2⟩ := hSW; go_simp⟩) hS0 ?_
  refine takeH 5 57 (.pointer (some ⟨b, 0, none⟩)) rfl rfl (by kernel_rfl) (by kernel_rfl) (by kernel_rfl) (fun _ _ _ h => h) (Or.inl ⟨by rfl, fun W hSW => by obtain ⟨s1, s2⟩ := hSW; go_simp⟩) hS0 ?_
  refine takeH 6 58 (.pointer (some ⟨b, 0, none⟩)) rfl rfl (by kernel_rfl) (by kernel_rfl) (by kernel_rfl) (fun _ _ _ h => h) (Or.inl ⟨by rfl, fun W hSW => by obtain ⟨s1, s2⟩ := hSW; go_simp⟩) hS0 ?_
  refine takeH 7 59 (.pointer (some ⟨b, 2, none⟩)) rfl rfl (by kernel_rfl) (by kernel_rfl) (by kernel_rfl) (fun _ _ _ h => h) (Or.inl ⟨by rfl, fun W hSW => by obtain ⟨s1, s2⟩ := hSW; go_simp⟩) hS0 ?_
  refine takeH 8 60 (.slice ao4 (V).ord.length co4) rfl rfl (by kernel_rfl) (by kernel_rfl) (by kernel_rfl) (fun _ _ _ h => h) (Or.inl ⟨by rfl, fun W hSW => by obtain ⟨s1, s2⟩ := hSW; go_simp⟩) hS0 ?_
  refine takeH 9 61 (.int .i64 ((V).ord.length : Int)) rfl rfl (by kernel_rfl) (by kernel_rfl) (by kernel_rfl) (fun _ _ _ h => h) (Or.inl ⟨by rfl, fun W hSW => by obtain ⟨s1, s2⟩ := hSW; go_simp⟩) hS0 ?_
  refine takeH 10 62 (.pointer (some ⟨gn, s, none⟩)) rfl rfl (by kernel_rfl) (by kernel_rfl) (by kernel_rfl) (fun _ _ _ h => h) (Or.inl ⟨by rfl, fun W hSW => by obtain ⟨s1, s2⟩ := hSW; go_simp⟩) hS0 ?_
  simp only [Act.put, List.setIfInBounds_toArray, List.set_cons_zero, List.set_cons_succ]
  refine wpAnyH_done (by kernel_rfl) ?_ _
  unfold thenLast
  clear hS0
  simp only [List.getElem_toArray, List.getElem_cons_succ, List.getElem_cons_zero]
  go_simp
  go_wp2_with (at_builtin; refine wpList_append_own_at _ rfl _ _ 22 rfl base 3 i0 _ 1 8 Tryz.underlying22 hi0 hz0 hz1 hz2 rfl (by decide) _ _ _ rfl (HR.out _ ((Kept.refl _ _).alloc _)) _ 1 1 [.int .i64 (s : Int)] rfl rfl ?c1 ?c2 ?c3 ?c4 ?c5 ?_)
  case c1 => exact natL_new2 _ (s : Int) _ (by simp)
  case c2 => exact int_one _
  case c3 => unfold maxLen; omega
  case c4 => omega
  case c5 => have := SZ.out; simp; omega
  intro v' w7 hown' hgrow hnil hloc
  obtain ⟨ao', c', rfl⟩ := ownsRow_slice hown'
  obtain ⟨b7, fin, finM, went⟩ := GR.out _ _ _ ((Kept.refl _ _).alloc _) hown' hgrow (by simpa using hloc)
  have c7 : w7.cell? ⟨b, 2, none⟩ = some (.slice ao4 (V).ord.length co4) := b7.cell 2
  have f7 : w7.frozen? ⟨b, 2, none⟩ = false := b7.frozen 2
  clear HR GR TS b7
  go_wp2_with fail
  go_end0
  exact ⟨rfl, _, _, fin, finM, went⟩


set_option maxHeartbeats 2000000 in
theorem visit_one {w : World} {b base g c : Nat} {nv ov lv : Value} {vs : List Sv} {M : List MS} {V : VS} {s : Nat} {m : MS} (h : SoAt w b base (.slice (some ⟨g, 0, none⟩) M.length c) nv ov lv V) (hM : StsAt w g vs M) (hgb : g < base) (hn : V.num[s]? = some (-1)) (hm : M[s]? = some m) (hk : m.kind = 2 ∨ m.kind = 3) {V' : VS} (hF : (∀ W ov lv, SoAt W b base (.slice (some ⟨g, 0, none⟩) M.length c) nv ov lv (V) → StsAt W g vs M → Calls Tryz.prog 50 #[.pointer (some ⟨b, 0, none⟩), .int .i64 m.next] W (VPost W b base g (.slice (some ⟨g, 0, none⟩) M.length c) nv ov lv vs M (V')))) (hnl : V'.num.length = V.num.length) (hfew : V'.ord.length ≤ 9000) :
    Calls Tryz.prog 50 #[.pointer (some ⟨b, 0, none⟩), .int .i64 (s : Int)] w (VPost w b base g (.slice (some ⟨g, 0, none⟩) M.length c) nv ov lv vs M (V'.put s)) := by
  have hlt := (List.getElem?_eq_some_iff.1 hn).1
  obtain ⟨i0, hi0, hz0, hz1, hz2⟩ := info_parts Tryz.infoInt0
  obtain ⟨gn, cn, rfl, g1, g2, g3, g4, g5⟩ := row_get h.num (by omega)
  obtain ⟨hsM, q, ⟨q1, q2, q3⟩, qc⟩ := hM.six hm
  obtain ⟨qk, qsa, qsn, qsc, qed, qsl, qnx, qot⟩ := q
  simp only at q1 q2 q3 qc
  subst q1 q2 q3
  have hbl := h.blk.lt
  have c0 : w.cell? ⟨b, 0, none⟩ = some (.slice (some ⟨g, 0, none⟩) M.length c) := h.blk.cell 0
  have c1 : w.cell? ⟨b, 1, none⟩ = some (.slice (some ⟨gn, 0, none⟩) V.num.length cn) := h.blk.cell 1
  have cs : w.cell? ⟨gn, s, none⟩ = some (.int .i64 (-1)) := by rw [g4 s hlt]; simp [intL, hn]
  have hi1 : ¬ ((V.num.length : Int) ≤ (s : Int)) := by omega
  have hi2 : ¬ ((M.length : Int) ≤ (s : Int)) := by omega
  obtain ⟨d0, d1, d2, d3, d4, d5⟩ := qc w hM
  have h1 := h.new ((Kept.refl Nil w).alloc (.cells #[.int .i64 m.kind, .slice qsa qsn qsc, .int .i64 qed, .int .i64 qsl, .int .i64 m.next, .int .i64 m.other] 94))
  have hM1 := hM.kept ((Kept.refl Nil w).alloc (.cells #[.int .i64 m.kind, .slice qsa qsn qsc, .int .i64 qed, .int .i64 qsl, .int .i64 m.next, .int .i64 m.other] 94)) (fun hx => hx)
  have w1 := (WentT.refl b w (.slice (some ⟨gn, 0, none⟩) V.num.length cn) ov lv).new ((Kept.refl Nil w).alloc (.cells #[.int .i64 m.kind, .slice qsa qsn qsc, .int .i64 qed, .int .i64 qsl, .int .i64 m.next, .int .i64 m.other] 94))
  have L1 := Blk.new w #[.int .i64 m.kind, .slice qsa qsn qsc, .int .i64 qed, .int .i64 qsl, .int .i64 m.next, .int .i64 m.other] 94
  have n1 : ¬ OwnT b (.slice (some ⟨gn, 0, none⟩) V.num.length cn) ov lv w.heap.size := fun hx => by have := h.own hx; omega
  have F1 := hF _ ov lv h1 hM1
  have F1 := hid F1
  have k1 : (m.kind == 1) = false := by rcases hk with e | e <;> simp [e]
  have PK := hid (And.intro w1 h1)
  have HGB := hid hgb
  clear h hM g4 g5 hn hm qc h1 hM1 w1 L1 n1 hF
  rcases (show ((m.kind == 2) = true) ∨ ((m.kind == 2) = false ∧ (m.kind == 3) = true) by rcases hk with e | e <;> simp [e]) with e | ⟨e, e'⟩
  all_goals
    clear hk
    go_enter Tryz.func50, Tryz.ntmps50
    go_wp2_with fail
    refine (F1.out).mono ?_
    rintro e2 w4 ⟨rfl, ov4, lv4, h4, hM4, k4'⟩
    have kk4 := PK.out.1.trans k4'
    have FZ4 := h4.fz s
    obtain ⟨u4, CE4⟩ := h4.cel (s := s) (by first | omega | (simp only [VS.late]; omega))
    have hgnb : gn ≠ b := (h4.an gn rfl).1
    have hbgn : b ≠ gn := fun e => hgnb e.symm
    have hggn : g ≠ gn := by omega
    obtain ⟨ao4, co4, hov4⟩ := ownsRow_slice h4.ord
    subst hov4
    have E1 : (w4).cell? ⟨b, 1, none⟩ = some (.slice (some ⟨gn, 0, none⟩) V.num.length cn) := h4.blk.cell 1
    have E2 : (w4).cell? ⟨b, 2, none⟩ = some (.slice ao4 (V').ord.length co4) := h4.blk.cell 2
    have TS : Hid (TlS b (.slice (some ⟨gn, 0, none⟩) V.num.length cn) (.slice ao4 (V').ord.length co4) (w4).drew) := ⟨h4.blk.cell 1, h4.blk.cell 2⟩
    obtain ⟨HR, GR⟩ := tail_facts ((h4.number s ((V').ord.length : Int)).new ((Kept.refl Nil _).drew)) ((hM4.number hggn _).kept ((Kept.refl Nil _).drew) (fun hx => hx)) ((kk4.number _).new ((Kept.refl Nil _).drew)) hgb
    have HR := hid HR
    have GR := hid GR
    have FZ : (w4).frozen? ⟨gn, s, none⟩ = false := FZ4
    have SZ : Hid (base ≤ (w4).heap.size) := by have := h4.bb; have := h4.blk.lt; show _ ≤ _; omega
    clear h4 hM4 kk4 k4' PK F1 E1 hgb
    go_wp2_with fail
    refine wp_region_last (S := TlS b (.slice (some ⟨gn, 0, none⟩) V.num.length cn) (.slice ao4 (V').ord.length co4)) 11 (by kernel_rfl) rfl rfl rfl (by kernel_rfl) (by kernel_rfl) ?_
    have hS0 := TS.out
    refine takeH 0 52 (.pointer (some ⟨b, 0, none⟩)) rfl rfl (by kernel_rfl) (by kernel_rfl) (by kernel_rfl) (fun _ _ _ h => h) (Or.inl ⟨by rfl, fun W hSW => by obtain ⟨s1, s2⟩ := hSW; go_simp⟩) hS0 ?_
    refine takeH 1 53 (.pointer (some ⟨b, 0, none⟩)) rfl rfl (by kernel_rfl) (by kernel_rfl) (by kernel_rfl) (fun _ _ _ h => h) (Or.inl ⟨by rfl, fun W hSW => by obtain ⟨s1, s2⟩ := hSW; go_simp⟩) hS0 ?_
    refine takeH 2 54 (.pointer (some ⟨b, 1, none⟩)) rfl rfl (by kernel_rfl) (by kernel_rfl) (by kernel_rfl) (fun _ _ _ h => h) (Or.inl ⟨by rfl, fun W hSW => by obtain ⟨s1, s2⟩ := hSW; go_simp⟩) hS0 ?_
    refine takeH 3 55 (.slice (some ⟨gn, 0, none⟩) V.num.length cn) rfl rfl (by kernel_rfl) (by kernel_rfl) (by kernel_rfl) (fun _ _ _ h => h) (Or.inl ⟨by rfl, fun W hSW => by obtain ⟨s1, s2⟩ := hSW; go_simp⟩) hS0 ?_
    refine takeH 4 56 (.int .i64 (s : Int)) rfl rfl (by kernel_rfl) (by kernel_rfl) (by kernel_rfl) (fun _ _ _ h => h) (Or.inl ⟨by rfl, fun W hSW => by obtain ⟨s1, s2⟩ := hSW; go_simp⟩) hS0 ?_
    refine takeH 5 57 (.pointer (some ⟨b, 0, none⟩)) rfl rfl (by kernel_rfl) (by kernel_rfl) (by kernel_rfl) (fun _ _ _ h => h) (Or.inl ⟨by rfl, fun W hSW => by obtain ⟨s1, s2⟩ := hSW; go_simp⟩) hS0 ?_
    refine takeH 6 58 (.pointer (some ⟨b, 0, none⟩)) rfl rfl (by kernel_rfl) (by kernel_rfl) (by kernel_rfl) (fun _ _ _ h => h) (Or.inl ⟨by rfl, fun W hSW => by obtain ⟨s1, s2⟩ := hSW; go_simp⟩) hS0 ?_
    refine takeH 7 59 (.pointer (some ⟨b, 2, none⟩)) rfl rfl (by kernel_rfl) (by kernel_rfl) (by kernel_rfl) (fun _ _ _ h => h) (Or.inl ⟨by rfl, fun W hSW => by obtain ⟨s1, s2⟩ := hSW; go_simp⟩) hS0 ?_
    refine takeH 8 60 (.slice ao4 (V').ord.length co4) rfl rfl (by kernel_rfl) (by kernel_rfl) (by kernel_rfl) (fun _ _ _ h => h) (Or.inl ⟨by rfl, fun W hSW => by obtain ⟨s1, s2⟩ := hSW; go_simp⟩) hS0 ?_
    refine takeH 9 61 (.int .i64 ((V').ord.length : Int)) rfl rfl (by kernel_rfl) (by kernel_rfl) (by kernel_rfl) (fun _ _ _ h => h) (Or.inl ⟨by rfl, fun W hSW => by obtain ⟨s1, s2⟩ := hSW; go_simp⟩) hS0 ?_
    refine takeH 10 62 (.pointer (some ⟨gn, s, none⟩)) rfl rfl (by kernel_rfl) (by kernel_rfl) (by kernel_rfl) (fun _ _ _ h => h) (Or.inl ⟨by rfl, fun W hSW => by obtain ⟨s1, s2⟩ := hSW; go_simp⟩) hS0 ?_
    simp only [Act.put, List.setIfInBounds_toArray, List.set_cons_zero, List.set_cons_succ]
    refine wpAnyH_done (by kernel_rfl) ?_ _
    unfold thenLast
    clear hS0
    simp only [List.getElem_toArray, List.getElem_cons_succ, List.getElem_cons_zero]
    go_simp
    go_wp2_with (at_builtin; refine wpList_append_own_at _ rfl _ _ 22 rfl base 3 i0 _ 1 8 Tryz.underlying22 hi0 hz0 hz1 hz2 rfl (by decide) _ _ _ rfl (HR.out _ ((Kept.refl _ _).alloc _)) _ 1 1 [.int .i64 (s : Int)] rfl rfl ?c1 ?c2 ?c3 ?c4 ?c5 ?_)
    case c1 => exact natL_new2 _ (s : Int) _ (by simp)
    case c2 => exact int_one _
    case c3 => unfold maxLen; omega
    case c4 => omega
    case c5 => have := SZ.out; simp; omega
    intro v' w7 hown' hgrow hnil hloc
    obtain ⟨ao', c', rfl⟩ := ownsRow_slice hown'
    obtain ⟨b7, fin, finM, went⟩ := GR.out _ _ _ ((Kept.refl _ _).alloc _) hown' hgrow (by simpa using hloc)
    have c7 : w7.cell? ⟨b, 2, none⟩ = some (.slice ao4 (V').ord.length co4) := b7.cell 2
    have f7 : w7.frozen? ⟨b, 2, none⟩ = false := b7.frozen 2
    clear HR GR TS b7
    go_wp2_with fail
    go_end0
    exact ⟨rfl, _, _, fin, finM, went⟩


set_option maxHeartbeats 2000000 in
theorem visit_two {w : World} {b base g c : Nat} {nv ov lv : Value} {vs : List Sv} {M : List MS} {V : VS} {s : Nat} {m : MS} (h : SoAt w b base (.slice (some ⟨g, 0, none⟩) M.length c) nv ov lv V) (hM : StsAt w g vs M) (hgb : g < base) (hn : V.num[s]? = some (-1)) (hm : M[s]? = some m) (hk : m.kind = 4) {V' V2 : VS} (hF : (∀ W ov lv, SoAt W b base (.slice (some ⟨g, 0, none⟩) M.length c) nv ov lv (V) → StsAt W g vs M → Calls Tryz.prog 50 #[.pointer (some ⟨b, 0, none⟩), .int .i64 m.next] W (VPost W b base g (.slice (some ⟨g, 0, none⟩) M.length c) nv ov lv vs M (V')))) (hF2 : (∀ W ov lv, SoAt W b base (.slice (some ⟨g, 0, none⟩) M.length c) nv ov lv (V') → StsAt W g vs M → Calls Tryz.prog 50 #[.pointer (some ⟨b, 0, none⟩), .int .i64 m.other] W (VPost W b base g (.slice (some ⟨g, 0, none⟩) M.length c) nv ov lv vs M (V2)))) (hnl' : V'.num.length = V.num.length) (hnl : V2.num.length = V.num.length) (hfew : V2.ord.length ≤ 9000) :
    Calls Tryz.prog 50 #[.pointer (some ⟨b, 0, none⟩), .int .i64 (s : Int)] w (VPost w b base g (.slice (some ⟨g, 0, none⟩) M.length c) nv ov lv vs M (V2.put s)) := by
  have hlt := (List.getElem?_eq_some_iff.1 hn).1
  obtain ⟨i0, hi0, hz0, hz1, hz2⟩ := info_parts Tryz.infoInt0
  obtain ⟨gn, cn, rfl, g1, g2, g3, g4, g5⟩ := row_get h.num (by omega)
  obtain ⟨hsM, q, ⟨q1, q2, q3⟩, qc⟩ := hM.six hm
  obtain ⟨qk, qsa, qsn, qsc, qed, qsl, qnx, qot⟩ := q
  simp only at q1 q2 q3 qc
  subst q1 q2 q3
  have hbl := h.blk.lt
  have c0 : w.cell? ⟨b, 0, none⟩ = some (.slice (some ⟨g, 0, none⟩) M.length c) := h.blk.cell 0
  have c1 : w.cell? ⟨b, 1, none⟩ = some (.slice (some ⟨gn, 0, none⟩) V.num.length cn) := h.blk.cell 1
  have cs : w.cell? ⟨gn, s, none⟩ = some (.int .i64 (-1)) := by rw [g4 s hlt]; simp [intL, hn]
  have hi1 : ¬ ((V.num.length : Int) ≤ (s : Int)) := by omega
  have hi2 : ¬ ((M.length : Int) ≤ (s : Int)) := by omega
  obtain ⟨d0, d1, d2, d3, d4, d5⟩ := qc w hM
  have h1 := h.new ((Kept.refl Nil w).alloc (.cells #[.int .i64 m.kind, .slice qsa qsn qsc, .int .i64 qed, .int .i64 qsl, .int .i64 m.next, .int .i64 m.other] 94))
  have hM1 := hM.kept ((Kept.refl Nil w).alloc (.cells #[.int .i64 m.kind, .slice qsa qsn qsc, .int .i64 qed, .int .i64 qsl, .int .i64 m.next, .int .i64 m.other] 94)) (fun hx => hx)
  have w1 := (WentT.refl b w (.slice (some ⟨gn, 0, none⟩) V.num.length cn) ov lv).new ((Kept.refl Nil w).alloc (.cells #[.int .i64 m.kind, .slice qsa qsn qsc, .int .i64 qed, .int .i64 qsl, .int .i64 m.next, .int .i64 m.other] 94))
  have L1 := Blk.new w #[.int .i64 m.kind, .slice qsa qsn qsc, .int .i64 qed, .int .i64 qsl, .int .i64 m.next, .int .i64 m.other] 94
  have n1 : ¬ OwnT b (.slice (some ⟨gn, 0, none⟩) V.num.length cn) ov lv w.heap.size := fun hx => by have := h.own hx; omega
  have F1 := hF _ ov lv h1 hM1
  have F1 := hid F1
  have HF2 := hid hF2
  have PK := hid (And.intro (And.intro w1 h1) (And.intro L1 n1))
  clear h hM g4 g5 hn hm qc h1 hM1 w1 L1 n1 hF hF2
  have k1 : (m.kind == 1) = false := by simp [hk]
  have k2 : (m.kind == 2) = false := by simp [hk]
  have k3 : (m.kind == 3) = false := by simp [hk]
  have k4 : (m.kind == 4) = true := by simp [hk]
  clear hk
  go_enter Tryz.func50, Tryz.ntmps50
  go_wp2_with fail
  refine (F1.out).mono ?_
  rintro e2 w3 ⟨rfl, ov3, lv3, h3, hM3, k3'⟩
  have kk3 := PK.out.1.1.trans k3'
  have L3 := PK.out.2.1.kept k3'.kept PK.out.2.2
  have l5 : w3.cell? ⟨w.heap.size, 5, none⟩ = some (.int .i64 m.other) := L3.cell 5
  have F2 := hid (HF2.out _ _ _ h3 hM3)
  have K3 := hid kk3
  clear h3 hM3 k3' kk3 L3 HF2 PK F1
  go_wp2_with fail
  refine (F2.out).mono ?_
  rintro e2 w4 ⟨rfl, ov4, lv4, h4, hM4, k4'⟩
  have kk4 := K3.out.trans k4'
  have FZ4 := h4.fz s
  obtain ⟨u4, CE4⟩ := h4.cel (s := s) (by omega)
  have hgnb : gn ≠ b := (h4.an gn rfl).1
  have hbgn : b ≠ gn := fun e => hgnb e.symm
  have hggn : g ≠ gn := by omega
  obtain ⟨ao4, co4, hov4⟩ := ownsRow_slice h4.ord
  subst hov4
  have E1 : (w4).cell? ⟨b, 1, none⟩ = some (.slice (some ⟨gn, 0, none⟩) V.num.length cn) := h4.blk.cell 1
  have E2 : (w4).cell? ⟨b, 2, none⟩ = some (.slice ao4 (V2).ord.length co4) := h4.blk.cell 2
  have TS : Hid (TlS b (.slice (some ⟨gn, 0, none⟩) V.num.length cn) (.slice ao4 (V2).ord.length co4) (w4).drew) := ⟨h4.blk.cell 1, h4.blk.cell 2⟩
  obtain ⟨HR, GR⟩ := tail_facts ((h4.number s ((V2).ord.length : Int)).new ((Kept.refl Nil _).drew)) ((hM4.number hggn _).kept ((Kept.refl Nil _).drew) (fun hx => hx)) ((kk4.number _).new ((Kept.refl Nil _).drew)) hgb
  have HR := hid HR
  have GR := hid GR
  have FZ : (w4).frozen? ⟨gn, s, none⟩ = false := FZ4
  have SZ : Hid (base ≤ (w4).heap.size) := by have := h4.bb; have := h4.blk.lt; show _ ≤ _; omega
  clear h4 hM4 kk4 k4' K3 F2 E1
  go_wp2_with fail
  refine wp_region_last (S := TlS b (.slice (some ⟨gn, 0, none⟩) V.num.length cn) (.slice ao4 (V2).ord.length co4)) 11 (by kernel_rfl) rfl rfl rfl (by kernel_rfl) (by kernel_rfl) ?_
  have hS0 := TS.out
  refine takeH 0 52 (.pointer (some ⟨b, 0, none⟩)) rfl rfl (by kernel_rfl) (by kernel_rfl) (by kernel_rfl) (fun _ _ _ h => h) (Or.inl ⟨by rfl, fun W hSW => by obtain ⟨s1, s2⟩ := hSW; go_simp⟩) hS0 ?_
  refine takeH 1 53 (.pointer (some ⟨b, 0, none⟩)) rfl rfl (by kernel_rfl) (by kernel_rfl) (by kernel_rfl) (fun _ _ _ h => h) (Or.inl ⟨by rfl, fun W hSW => by obtain ⟨s1, s2⟩ := hSW; go_simp⟩) hS0 ?_
  refine takeH 2 54 (.pointer (some ⟨b, 1, none⟩)) rfl rfl (by kernel_rfl) (by kernel_rfl) (by kernel_rfl) (fun _ _ _ h => h) (Or.inl ⟨by rfl, fun W hSW => by obtain ⟨s1, s2⟩ := hSW; go_simp⟩) hS0 ?_
  refine takeH 3 55 (.slice (some ⟨gn, 0, none⟩) V.num.length cn) rfl rfl (by kernel_rfl) (by kernel_rfl) (by kernel_rfl) (fun _ _ _ h => h) (Or.inl ⟨by rfl, fun W hSW => by obtain ⟨s1, s2⟩ := hSW; go_simp⟩) hS0 ?_
  refine takeH 4 56 (.int .i64 (s : Int)) rfl rfl (by kernel_rfl) (by kernel_rfl) (by kernel_rfl) (fun _ _ _ h => h) (Or.inl ⟨by rfl, fun W hSW => by obtain ⟨s1, s2⟩ := hSW; go_simp⟩) hS0 ?_
  refine takeH 5 57 (.pointer (some ⟨b, 0, none⟩)) rfl rfl (by kernel_rfl) (by kernel_rfl) (by kernel_rfl) (fun _ _ _ h => h) (Or.inl ⟨by rfl, fun W hSW => by obtain ⟨s1, s2⟩ := hSW; go_simp⟩) hS0 ?_
  refine takeH 6 58 (.pointer (some ⟨b, 0, none⟩)) rfl rfl (by kernel_rfl) (by kernel_rfl) (by kernel_rfl) (fun _ _ _ h => h) (Or.inl ⟨by rfl, fun W hSW => by obtain ⟨s1, s2⟩ := hSW; go_simp⟩) hS0 ?_
  refine takeH 7 59 (.pointer (some ⟨b, 2, none⟩)) rfl rfl (by kernel_rfl) (by kernel_rfl) (by kernel_rfl) (fun _ _ _ h => h) (Or.inl ⟨by rfl, fun W hSW => by obtain ⟨s1, s2⟩ := hSW; go_simp⟩) hS0 ?_
  refine takeH 8 60 (.slice ao4 (V2).ord.length co4) rfl rfl (by kernel_rfl) (by kernel_rfl) (by kernel_rfl) (fun _ _ _ h => h) (Or.inl ⟨by rfl, fun W hSW => by obtain ⟨s1, s2⟩ := hSW; go_simp⟩) hS0 ?_
  refine takeH 9 61 (.int .i64 ((V2).ord.length : Int)) rfl rfl (by kernel_rfl) (by kernel_rfl) (by kernel_rfl) (fun _ _ _ h => h) (Or.inl ⟨by rfl, fun W hSW => by obtain ⟨s1, s2⟩ := hSW; go_simp⟩) hS0 ?_
  refine takeH 10 62 (.pointer (some ⟨gn, s, none⟩)) rfl rfl (by kernel_rfl) (by kernel_rfl) (by kernel_rfl) (fun _ _ _ h => h) (Or.inl ⟨by rfl, fun W hSW => by obtain ⟨s1, s2⟩ := hSW; go_simp⟩) hS0 ?_
  simp only [Act.put, List.setIfInBounds_toArray, List.set_cons_zero, List.set_cons_succ]
  refine wpAnyH_done (by kernel_rfl) ?_ _
  unfold thenLast
  clear hS0
  simp only [List.getElem_toArray, List.getElem_cons_succ, List.getElem_cons_zero]
  go_simp
  go_wp2_with (at_builtin; refine wpList_append_own_at _ rfl _ _ 22 rfl base 3 i0 _ 1 8 Tryz.underlying22 hi0 hz0 hz1 hz2 rfl (by decide) _ _ _ rfl (HR.out _ ((Kept.refl _ _).alloc _)) _ 1 1 [.int .i64 (s : Int)] rfl rfl ?c1 ?c2 ?c3 ?c4 ?c5 ?_)
  case c1 => exact natL_new2 _ (s : Int) _ (by simp)
  case c2 => exact int_one _
  case c3 => unfold maxLen; omega
  case c4 => omega
  case c5 => have := SZ.out; simp; omega
  intro v' w7 hown' hgrow hnil hloc
  obtain ⟨ao', c', rfl⟩ := ownsRow_slice hown'
  obtain ⟨b7, fin, finM, went⟩ := GR.out _ _ _ ((Kept.refl _ _).alloc _) hown' hgrow (by simpa using hloc)
  have c7 : w7.cell? ⟨b, 2, none⟩ = some (.slice ao4 (V2).ord.length co4) := b7.cell 2
  have f7 : w7.frozen? ⟨b, 2, none⟩ = false := b7.frozen 2
  clear HR GR TS b7
  go_wp2_with fail
  go_end0
  exact ⟨rfl, _, _, fin, finM, went⟩
end Go.Proofs.YtnbfddjaonlmaaaGreatDoor
