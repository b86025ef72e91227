/- Package whole's newOutlook. -/
import Derived.Test.YtnbfddjaonlmaaaGreatDoorP36
namespace Go.Proofs.YtnbfddjaonlmaaaGreatDoor
open Go.RowKit Go.Maps
set_option linter.unusedVariables false
set_option maxRecDepth 100000

/-- what newOutlook reads of its arguments -/
def NoS (b : Nat) (sv : Value) (st G : Int) (s : ByteArray) (W : World) : Prop := (W.cell? ⟨b, 0, none⟩ = some sv ∧ W.cell? ⟨b, 1, none⟩ = some (.int .i64 st) ∧ W.cell? ⟨b, 2, none⟩ = some (.int .i64 G)) ∧ W.cell? ⟨b + 1, 0, none⟩ = some (.string s) ∧ W.cell? ⟨b + 1, 1, none⟩ = some (.int .i64 0) ∧ W.cell? ⟨b + 1, 2, none⟩ = some (.int .i32 (-1)) ∧ W.cell? ⟨b + 1, 3, none⟩ = some (.int .i32 (-1)) ∧ W.cell? ⟨b + 1, 4, none⟩ = some (.bool false)
theorem rows_get {w : World} {base : Nat} {v : Value} {N L WB : Nat} (h : RowsAt w base v N L WB) (hN : 0 < N) : ∃ rh cr, v = .slice (some ⟨rh, 0, none⟩) N cr ∧ base ≤ rh ∧ rh < w.heap.size ∧ ∀ k, k < N → w.cell? ⟨rh, k, none⟩ = some (.slice (some ⟨WB, k * L, none⟩) L L) := by
  obtain ⟨g, c, hv, l1, l2, l3, l4, l5⟩ := row_get h hN
  refine ⟨g, c, hv, l1, l2, fun k hk => ?_⟩
  rw [l4 k hk]
  simp [hk, rowV]
/-- what its third and fourth regions read -/
def NoS3 (b ob : Nat) (sv bv : Value) (W : World) : Prop := W.cell? ⟨b, 0, none⟩ = some sv ∧ W.cell? ⟨ob, 8, none⟩ = some bv
theorem Tabs.lt {w : World} (h : Tabs w) : 0 < w.heap.size ∧ 1 < w.heap.size :=
  ⟨World.block_lt_of_cell? _ _ (h.1 0 (by omega)), World.block_lt_of_cell? _ _ (h.2 0 (by omega)).1⟩
/-- what its seventh region reads -/
def NoS7 (b ob fh n cf FB L last : Nat) (s : ByteArray) (W : World) : Prop := W.cell? ⟨ob, 9, none⟩ = some (.slice (some ⟨fh, 0, none⟩) n cf) ∧ W.cell? ⟨fh, last, none⟩ = some (.slice (some ⟨FB, last * L, none⟩) L L) ∧ W.cell? ⟨b + 1, 0, none⟩ = some (.string s)
/-- what its twelfth region reads -/
def NoS12 (ob fh n cf FB L b rh nr cr WB : Nat) (W : World) : Prop := (W.cell? ⟨ob, 9, none⟩ = some (.slice (some ⟨fh, 0, none⟩) n cf) ∧ W.cell? ⟨ob, 11, none⟩ = some (.slice (some ⟨rh, 0, none⟩) nr cr)) ∧ W.cell? ⟨fh, b, none⟩ = some (.slice (some ⟨FB, b * L, none⟩) L L) ∧ W.cell? ⟨rh, 0, none⟩ = some (.slice (some ⟨WB, 0, none⟩) L L)
/-- the machine, as newOutlook is handed it -/
structure MaAt (w : World) (lo hi mb c : Nat) (vs : List Sv) (ms : List MS) : Prop where
  sts : StsAt w mb vs ms
  svs : ∀ i, (h : i < vs.length) → (h' : i < ms.length) → SvAt w lo hi vs[i] ms[i]
  le : hi ≤ w.heap.size
  tabs : Tabs w
theorem MaAt.kept {w w' : World} {lo hi mb c : Nat} {vs : List Sv} {ms : List MS} (h : MaAt w lo hi mb c vs ms) (k : Kept Nil w w') : MaAt w' lo hi mb c vs ms :=
  ⟨h.sts.kept k (fun h => h), fun i a b => (h.svs i a b).kept k (fun _ _ _ h => h) h.le, Nat.le_trans h.le k.size, h.tabs.keptN k⟩

set_option maxHeartbeats 8000000 in
theorem newOutlook_rd {w : World} {lo hi mb c : Nat} {vs : List Sv} {ms : List MS} {s : ByteArray} {st G : Int} (hM : MaAt w lo hi mb c vs ms) (hg : MGood ms) (hq : AllQ G ms) (hfew : ms.length ≤ 4001) (hs : s.size ≤ 10000000) :
    Calls Tryz.prog 41 #[.agg #[.slice (some ⟨mb, 0, none⟩) ms.length c, .int .i64 st, .int .i64 G], .agg #[.string s, .int .i64 0, .int .i32 (-1), .int .i32 (-1), .bool false]] w fun e w' => ∃ (g : OG) (wf wr : List Nat), e = .returned (.pointer (some ⟨g.ob, 0, none⟩)) ∧ (g.ms = ms ∧ g.s = s ∧ g.st = st ∧ g.G = G ∧ g.mb = mb ∧ g.c = c ∧ g.vs = vs ∧ w.heap.size ≤ g.ob ∧ w.heap.size ≤ g.WB ∧ g.lo = lo ∧ g.hi = hi ∧ w.heap.size ≤ g.bgb ∧ w.heap.size ≤ g.fh ∧ w.heap.size ≤ g.rh ∧ w.heap.size ≤ g.FB) ∧ g.Ok ∧ OutAt w' g 0 wf wr ∧ Kept Nil w w' := by
  have HM := hid hM
  have HGD := hid hg
  have HQ := hid hq
  clear hM hg hq
  go_enter Tryz.func41, Tryz.ntmps41
  go_wp2_with fail
  have B2 : Hid (Blk ((w.alloc (.cells #[.slice (some ⟨mb, 0, none⟩) ms.length c, .int .i64 st, .int .i64 G] 65)).alloc (.cells #[.string s, .int .i64 0, .int .i32 (-1), .int .i32 (-1), .bool false] 86)) w.heap.size #[.slice (some ⟨mb, 0, none⟩) ms.length c, .int .i64 st, .int .i64 G] 65) := (Blk.new w _ _).alloc _
  have B3 : Hid (Blk ((w.alloc (.cells #[.slice (some ⟨mb, 0, none⟩) ms.length c, .int .i64 st, .int .i64 G] 65)).alloc (.cells #[.string s, .int .i64 0, .int .i32 (-1), .int .i32 (-1), .bool false] 86)) (w.heap.size + 1) #[.string s, .int .i64 0, .int .i32 (-1), .int .i32 (-1), .bool false] 86) := by
    have := Blk.new (w.alloc (.cells #[.slice (some ⟨mb, 0, none⟩) ms.length c, .int .i64 st, .int .i64 G] 65)) #[.string s, .int .i64 0, .int .i32 (-1), .int .i32 (-1), .bool false] 86
    rw [size_alloc1] at this
    exact this
  have K1 : Hid (Kept Nil w ((w.alloc (.cells #[.slice (some ⟨mb, 0, none⟩) ms.length c, .int .i64 st, .int .i64 G] 65)).alloc (.cells #[.string s, .int .i64 0, .int .i32 (-1), .int .i32 (-1), .bool false] 86))) := ((Kept.refl Nil w).alloc _).alloc _
  have hs1 : ((w.alloc (.cells #[.slice (some ⟨mb, 0, none⟩) ms.length c, .int .i64 st, .int .i64 G] 65)).alloc (.cells #[.string s, .int .i64 0, .int .i32 (-1), .int .i32 (-1), .bool false] 86)).heap.size = w.heap.size + 1 + 1 := by simp
  generalize ((w.alloc (.cells #[.slice (some ⟨mb, 0, none⟩) ms.length c, .int .i64 st, .int .i64 G] 65)).alloc (.cells #[.string s, .int .i64 0, .int .i32 (-1), .int .i32 (-1), .bool false] 86)) = w1 at *
  have PS : Hid (∀ W, Kept Nil w1 W → NoS w.heap.size (.slice (some ⟨mb, 0, none⟩) ms.length c) st G s W) := fun W k => by
    have b2 := B2.out.kept k (fun h => h)
    have b3 := B3.out.kept k (fun h => h)
    exact ⟨⟨b2.cell 0, b2.cell 1, b2.cell 2⟩, b3.cell 0, b3.cell 1, b3.cell 2, b3.cell 3, b3.cell 4⟩
  have hS0 := PS.out w1.drew (Kept.refl Nil w1).drew
  refine wp_just (wp_region_last (S := NoS w.heap.size (.slice (some ⟨mb, 0, none⟩) ms.length c) st G s) 7 (by kernel_rfl) rfl rfl rfl (by kernel_rfl) (by kernel_rfl) ?_)
  refine takeH 0 9 (.agg #[.slice (some ⟨mb, 0, none⟩) ms.length c, .int .i64 st, .int .i64 G]) rfl rfl (by kernel_rfl) (by kernel_rfl) (by kernel_rfl) (fun _ _ _ h => h) (Or.inl ⟨by rfl, fun W hSW => by obtain ⟨⟨s0, s1, s2⟩, s3, s4, s5, s6, s7⟩ := hSW; go_simp⟩) hS0 ?_
  refine takeH 1 10 (.agg #[.string s, .int .i64 0, .int .i32 (-1), .int .i32 (-1), .bool false]) rfl rfl (by kernel_rfl) (by kernel_rfl) (by kernel_rfl) (fun _ _ _ h => h) (Or.inl ⟨by rfl, fun W hSW => by obtain ⟨⟨s0, s1, s2⟩, s3, s4, s5, s6, s7⟩ := hSW; go_simp⟩) hS0 ?_
  refine takeH 2 11 (.pointer (some ⟨w.heap.size + 1, 0, none⟩)) rfl rfl (by kernel_rfl) (by kernel_rfl) (by kernel_rfl) (fun _ _ _ h => h) (Or.inl ⟨by rfl, fun W hSW => by obtain ⟨⟨s0, s1, s2⟩, s3, s4, s5, s6, s7⟩ := hSW; go_simp⟩) hS0 ?_
  refine takeH 3 12 (.string s) rfl rfl (by kernel_rfl) (by kernel_rfl) (by kernel_rfl) (fun _ _ _ h => h) (Or.inl ⟨by rfl, fun W hSW => by obtain ⟨⟨s0, s1, s2⟩, s3, s4, s5, s6, s7⟩ := hSW; go_simp⟩) hS0 ?_
  simp only [Act.put, List.setIfInBounds_toArray, List.set_cons_zero, List.set_cons_succ]
  refine wpAnyH_ready (rs := [4]) (by kernel_rfl) (by simp) (AllReadyH.cons rfl (fun K hK => ?_) AllReadyH.nil)
  have F := hid (blocks_rd s w1.drew (by omega))
  go_simp
  refine (F.out).mono ?_
  rintro e w2 ⟨bv, ixs, rfl, k2, hrow, hbg⟩
  dsimp only
  have K2 : Hid (Kept Nil w1 w2) := (Kept.refl Nil w1).drew.trans k2
  refine hK.out _ _ (PS.out _ K2.out) (fun _ => ?_)
  clear hK K F
  have htwo := hbg.two
  obtain ⟨bgb, cb, hbv, l1, l2, l3, l4, l5⟩ := row_get hrow (by omega)
  subst hbv
  have hbgb1 : w.heap.size + 1 + 1 ≤ bgb := by have : w1.drew.heap.size = w1.heap.size := rfl; omega
  have HBG := hid hbg
  have HCB : Hid (∀ k, k < ixs.length → w2.cell? ⟨bgb, k, none⟩ = some (.int .i64 (bd s (ixs.getD k 0) : Int))) := fun k hk => by rw [l4 k hk, bgL_get hk]
  clear hbg hrow l4 l5 l1 l3 k2 hS0
  refine wpAnyH_ready (rs := [5]) (by kernel_rfl) (by simp) (AllReadyH.cons rfl (fun K hK => ?_) AllReadyH.nil)
  go_simp
  refine hK.out _ _ (PS.out _ K2.out) (fun _ => ?_)
  clear hK K
  refine wpAnyH_ready (rs := [6]) (by kernel_rfl) (by simp) (AllReadyH.cons rfl (fun K hK => ?_) AllReadyH.nil)
  go_simp
  have kB : Kept Nil w2 (w2.alloc (.cells #[.slice (some ⟨mb, 0, none⟩) ms.length c, .int .i64 st, .int .i64 G, .string s, .int .i64 0, .int .i32 (-1), .int .i32 (-1), .bool false, .slice (some ⟨bgb, 0, none⟩) ixs.length cb, .slice none 0 0, .int .i64 0, .slice none 0 0] 118)) := (Kept.refl Nil w2).alloc _
  refine hK.out _ _ (PS.out _ (K2.out.trans kB)) (fun _ => ?_)
  clear hK K
  have B5 : Hid (Blk (w2.alloc (.cells #[.slice (some ⟨mb, 0, none⟩) ms.length c, .int .i64 st, .int .i64 G, .string s, .int .i64 0, .int .i32 (-1), .int .i32 (-1), .bool false, .slice (some ⟨bgb, 0, none⟩) ixs.length cb, .slice none 0 0, .int .i64 0, .slice none 0 0] 118)) w2.heap.size (outV (.slice (some ⟨mb, 0, none⟩) ms.length c) st G s (.slice (some ⟨bgb, 0, none⟩) ixs.length cb) (.slice none 0 0) 0 (.slice none 0 0)) 118) := Blk.new w2 _ _
  have hs3 : (w2.alloc (.cells #[.slice (some ⟨mb, 0, none⟩) ms.length c, .int .i64 st, .int .i64 G, .string s, .int .i64 0, .int .i32 (-1), .int .i32 (-1), .bool false, .slice (some ⟨bgb, 0, none⟩) ixs.length cb, .slice none 0 0, .int .i64 0, .slice none 0 0] 118)).heap.size = w2.heap.size + 1 := size_alloc1 _ _
  have B23 : Hid (Blk (w2.alloc (.cells #[.slice (some ⟨mb, 0, none⟩) ms.length c, .int .i64 st, .int .i64 G, .string s, .int .i64 0, .int .i32 (-1), .int .i32 (-1), .bool false, .slice (some ⟨bgb, 0, none⟩) ixs.length cb, .slice none 0 0, .int .i64 0, .slice none 0 0] 118)) w.heap.size #[.slice (some ⟨mb, 0, none⟩) ms.length c, .int .i64 st, .int .i64 G] 65) := B2.out.kept (K2.out.trans kB) (fun h => h)
  have B33 : Hid (Blk (w2.alloc (.cells #[.slice (some ⟨mb, 0, none⟩) ms.length c, .int .i64 st, .int .i64 G, .string s, .int .i64 0, .int .i32 (-1), .int .i32 (-1), .bool false, .slice (some ⟨bgb, 0, none⟩) ixs.length cb, .slice none 0 0, .int .i64 0, .slice none 0 0] 118)) (w.heap.size + 1) #[.string s, .int .i64 0, .int .i32 (-1), .int .i32 (-1), .bool false] 86) := B3.out.kept (K2.out.trans kB) (fun h => h)
  have K3 : Hid (Kept Nil w (w2.alloc (.cells #[.slice (some ⟨mb, 0, none⟩) ms.length c, .int .i64 st, .int .i64 G, .string s, .int .i64 0, .int .i32 (-1), .int .i32 (-1), .bool false, .slice (some ⟨bgb, 0, none⟩) ixs.length cb, .slice none 0 0, .int .i64 0, .slice none 0 0] 118))) := (K1.out.trans K2.out).trans kB
  have HCB3 : Hid (∀ k, k < ixs.length → (w2.alloc (.cells #[.slice (some ⟨mb, 0, none⟩) ms.length c, .int .i64 st, .int .i64 G, .string s, .int .i64 0, .int .i32 (-1), .int .i32 (-1), .bool false, .slice (some ⟨bgb, 0, none⟩) ixs.length cb, .slice none 0 0, .int .i64 0, .slice none 0 0] 118)).cell? ⟨bgb, k, none⟩ = some (.int .i64 (bd s (ixs.getD k 0) : Int))) := fun k hk => (kB.cell (p := ⟨bgb, k, none⟩) l2 (fun h => h)).trans (HCB.out k hk)
  refine wpAnyH_done (by kernel_rfl) ?_ _
  unfold thenLast
  simp only [List.getElem_toArray, List.getElem_cons_succ, List.getElem_cons_zero]
  go_simp
  refine justN_n ?_
  have hs2 := K2.out.size
  generalize w2.alloc (.cells #[.slice (some ⟨mb, 0, none⟩) ms.length c, .int .i64 st, .int .i64 G, .string s, .int .i64 0, .int .i32 (-1), .int .i32 (-1), .bool false, .slice (some ⟨bgb, 0, none⟩) ixs.length cb, .slice none 0 0, .int .i64 0, .slice none 0 0] 118) = w3 at *
  clear kB PS B2 B3 K1 K2 HCB
  obtain ⟨ob, hob⟩ : ∃ ob, ob = w2.heap.size := ⟨_, rfl⟩
  rw [← hob] at B5 hs3 l2 hs2 ⊢
  have hs3a : ob < w3.heap.size ∧ w3.heap.size ≤ ob + 1 := by omega
  have hs1a : w.heap.size + 1 + 1 ≤ w1.heap.size := by omega
  clear hob hs3 hs1
  obtain ⟨nr, HNR⟩ : ∃ nr, Hid (nr = min s.size 4100 + 1) := ⟨_, (rfl : _ = _)⟩
  have hnr : nr ≤ 4101 := by have := HNR.out; omega
  have hnp : 0 < nr := by have := HNR.out; omega
  have hmin : min (s.size : Int) 4100 + 1 = (nr : Int) := by have := HNR.out; omega
  obtain ⟨L, HL⟩ : ∃ L, Hid (L = ms.length / 64 + 1) := ⟨_, (rfl : _ = _)⟩
  have cs : w3.cell? ⟨w.heap.size + 1, 0, none⟩ = some (.string s) := B33.out.cell 0
  have cm : w3.cell? ⟨w.heap.size, 0, none⟩ = some (.slice (some ⟨mb, 0, none⟩) ms.length c) := B23.out.cell 0
  have F := hid (newRows_rd nr ms.length L HL.out (by omega) hfew w3)
  go_wp2_with fail
  refine (F.out).mono ?_
  rintro e w4 ⟨rv, rfl, hrow, hbW, k4⟩
  obtain ⟨rh, cr, hrv, r1, r2, hrc⟩ := rows_get hrow hnp
  subst hrv
  have B54 := B5.out.kept k4 (fun h => h)
  have c11 : w4.cell? ⟨ob, 11, none⟩ = some (.slice none 0 0) := B54.cell 11
  have f11 : w4.frozen? ⟨ob, 11, none⟩ = false := B54.frozen 11
  have kS : Kept (fun i => i = ob) w4 (w4.setCell ⟨ob, 11, none⟩ (.slice (some ⟨rh, 0, none⟩) nr cr)) := (Kept.refl (fun i => i = ob) w4).setCell (p := ⟨ob, 11, none⟩) (Or.inl rfl) _
  have hs4 := k4.size
  have hwob : w.heap.size + 1 + 1 ≤ ob := by omega
  have B55 : Hid (Blk (w4.setCell ⟨ob, 11, none⟩ (.slice (some ⟨rh, 0, none⟩) nr cr)) ob (outV (.slice (some ⟨mb, 0, none⟩) ms.length c) st G s (.slice (some ⟨bgb, 0, none⟩) ixs.length cb) (.slice none 0 0) 0 (.slice (some ⟨rh, 0, none⟩) nr cr)) 118) := by
    have := B54.setCell 11 (.slice (some ⟨rh, 0, none⟩) nr cr)
    show Blk _ _ _ _
    simpa [outV] using this
  have K5 : Hid (Kept Nil w (w4.setCell ⟨ob, 11, none⟩ (.slice (some ⟨rh, 0, none⟩) nr cr))) := (K3.out.trans k4).trans' kS (fun i hi e => by omega)
  have B25 := hid ((B23.out.kept k4 (fun h => h)).kept kS (by omega))
  have B35 := hid ((B33.out.kept k4 (fun h => h)).kept kS (by omega))
  have HCB5 : Hid (∀ k, k < ixs.length → (w4.setCell ⟨ob, 11, none⟩ (.slice (some ⟨rh, 0, none⟩) nr cr)).cell? ⟨bgb, k, none⟩ = some (.int .i64 (bd s (ixs.getD k 0) : Int))) := fun k hk => (kS.cell (p := ⟨bgb, k, none⟩) (by show bgb < _; omega) (by show ¬ bgb = ob; omega)).trans ((k4.cell (p := ⟨bgb, k, none⟩) (by show bgb < _; omega) (fun h => h)).trans (HCB3.out k hk))
  have HRC5 : Hid (∀ k, k < nr → (w4.setCell ⟨ob, 11, none⟩ (.slice (some ⟨rh, 0, none⟩) nr cr)).cell? ⟨rh, k, none⟩ = some (.slice (some ⟨w3.heap.size, k * L, none⟩) L L)) := fun k hk => (kS.cell (p := ⟨rh, k, none⟩) r2 (by show ¬ rh = ob; omega)).trans (hrc k hk)
  have HBW5 := hid (hbW.kept kS (by omega))
  have hs5 : (w4.setCell ⟨ob, 11, none⟩ (.slice (some ⟨rh, 0, none⟩) nr cr)).heap.size = w4.heap.size := by simp [World.setCell]
  clear hrow hrc hbW k4 B54 kS F B23 B33 K3 HCB3 B5 cs cm
  go_wp2_with fail
  generalize w4.setCell ⟨ob, 11, none⟩ (.slice (some ⟨rh, 0, none⟩) nr cr) = w5 at *
  rw [← hs5] at r2 hs4
  clear hs5
  have PS3 : Hid (∀ W, Kept Nil w5 W → NoS3 w.heap.size ob (.slice (some ⟨mb, 0, none⟩) ms.length c) (.slice (some ⟨bgb, 0, none⟩) ixs.length cb) W) := fun W k => ⟨(B25.out.kept k (fun h => h)).cell 0, (B55.out.kept k (fun h => h)).cell 8⟩
  have hS0 := PS3.out w5.drew (Kept.refl Nil w5).drew
  have hixs := HBG.out.few
  refine wp_just (wp_region_last (S := NoS3 w.heap.size ob (.slice (some ⟨mb, 0, none⟩) ms.length c) (.slice (some ⟨bgb, 0, none⟩) ixs.length cb)) 12 (by kernel_rfl) rfl rfl rfl (by kernel_rfl) (by kernel_rfl) ?_)
  refine takeH 0 28 (.pointer (some ⟨ob, 0, none⟩)) rfl rfl (by kernel_rfl) (by kernel_rfl) (by kernel_rfl) (fun _ _ _ h => h) (Or.inl ⟨by rfl, fun W hSW => by obtain ⟨s0, s1⟩ := hSW; go_simp⟩) hS0 ?_
  refine takeH 1 29 (.pointer (some ⟨ob, 0, none⟩)) rfl rfl (by kernel_rfl) (by kernel_rfl) (by kernel_rfl) (fun _ _ _ h => h) (Or.inl ⟨by rfl, fun W hSW => by obtain ⟨s0, s1⟩ := hSW; go_simp⟩) hS0 ?_
  refine takeH 2 30 (.pointer (some ⟨ob, 0, none⟩)) rfl rfl (by kernel_rfl) (by kernel_rfl) (by kernel_rfl) (fun _ _ _ h => h) (Or.inl ⟨by rfl, fun W hSW => by obtain ⟨s0, s1⟩ := hSW; go_simp⟩) hS0 ?_
  refine takeH 3 31 (.pointer (some ⟨ob, 8, none⟩)) rfl rfl (by kernel_rfl) (by kernel_rfl) (by kernel_rfl) (fun _ _ _ h => h) (Or.inl ⟨by rfl, fun W hSW => by obtain ⟨s0, s1⟩ := hSW; go_simp⟩) hS0 ?_
  refine takeH 4 32 (.slice (some ⟨bgb, 0, none⟩) ixs.length cb) rfl rfl (by kernel_rfl) (by kernel_rfl) (by kernel_rfl) (fun _ _ _ h => h) (Or.inl ⟨by rfl, fun W hSW => by obtain ⟨s0, s1⟩ := hSW; go_simp⟩) hS0 ?_
  refine takeH 5 33 (.int .i64 (ixs.length : Int)) rfl rfl (by kernel_rfl) (by kernel_rfl) (by kernel_rfl) (fun _ _ _ h => h) (Or.inl ⟨by rfl, fun W hSW => by obtain ⟨s0, s1⟩ := hSW; go_simp⟩) hS0 ?_
  refine takeH 6 34 (.pointer (some ⟨w.heap.size, 0, none⟩)) rfl rfl (by kernel_rfl) (by kernel_rfl) (by kernel_rfl) (fun _ _ _ h => h) (Or.inl ⟨by rfl, fun W hSW => by obtain ⟨s0, s1⟩ := hSW; go_simp⟩) hS0 ?_
  refine takeH 7 35 (.slice (some ⟨mb, 0, none⟩) ms.length c) rfl rfl (by kernel_rfl) (by kernel_rfl) (by kernel_rfl) (fun _ _ _ h => h) (Or.inl ⟨by rfl, fun W hSW => by obtain ⟨s0, s1⟩ := hSW; go_simp⟩) hS0 ?_
  refine takeH 8 36 (.int .i64 (ms.length : Int)) rfl rfl (by kernel_rfl) (by kernel_rfl) (by kernel_rfl) (fun _ _ _ h => h) (Or.inl ⟨by rfl, fun W hSW => by obtain ⟨s0, s1⟩ := hSW; go_simp⟩) hS0 ?_
  simp only [Act.put, List.setIfInBounds_toArray, List.set_cons_zero, List.set_cons_succ]
  refine wpAnyH_ready (rs := [9]) (by kernel_rfl) (by simp) (AllReadyH.cons rfl (fun K hK => ?_) AllReadyH.nil)
  have F := hid (newRows_rd ixs.length ms.length L HL.out (by omega) hfew w5.drew)
  go_simp
  refine (F.out).mono ?_
  rintro e w6 ⟨fv, rfl, hrow, hbF, k6⟩
  dsimp only
  have k56 : Kept Nil w5 w6 := (Kept.refl Nil w5).drew.trans k6
  have hFBe : w5.drew.heap.size = w5.heap.size := rfl
  rw [hFBe] at hrow hbF
  obtain ⟨fh, cf, hfv, q1, q2, hfc⟩ := rows_get hrow (by omega)
  subst hfv
  have K56 := hid k56
  refine hK.out _ _ (PS3.out _ K56.out) (fun _ => ?_)
  clear hK K F
  refine wpAnyH_ready (rs := [10]) (by kernel_rfl) (by simp) (AllReadyH.cons rfl (fun K hK => ?_) AllReadyH.nil)
  go_simp
  refine hK.out _ _ (PS3.out _ K56.out) (fun _ => ?_)
  clear hK K
  refine wpAnyH_ready (rs := [11]) (by kernel_rfl) (by simp) (AllReadyH.cons rfl (fun K hK => ?_) AllReadyH.nil)
  go_simp
  refine hK.out _ _ (PS3.out _ K56.out) (fun _ => ?_)
  clear hK K
  refine wpAnyH_done (by kernel_rfl) ?_ _
  unfold thenLast
  simp only [List.getElem_toArray, List.getElem_cons_succ, List.getElem_cons_zero]
  have B56 := B55.out.kept k56 (fun h => h)
  have c9 : w6.cell? ⟨ob, 9, none⟩ = some (.slice none 0 0) := B56.cell 9
  have f9 : w6.frozen? ⟨ob, 9, none⟩ = false := B56.frozen 9
  have kS : Kept (fun i => i = ob) w6 (w6.setCell ⟨ob, 9, none⟩ (.slice (some ⟨fh, 0, none⟩) ixs.length cf)) := (Kept.refl (fun i => i = ob) w6).setCell (p := ⟨ob, 9, none⟩) (Or.inl rfl) _
  have hs6 := k56.size
  have B57 : Hid (Blk (w6.setCell ⟨ob, 9, none⟩ (.slice (some ⟨fh, 0, none⟩) ixs.length cf)) ob (outV (.slice (some ⟨mb, 0, none⟩) ms.length c) st G s (.slice (some ⟨bgb, 0, none⟩) ixs.length cb) (.slice (some ⟨fh, 0, none⟩) ixs.length cf) 0 (.slice (some ⟨rh, 0, none⟩) nr cr)) 118) := by
    have := B56.setCell 9 (.slice (some ⟨fh, 0, none⟩) ixs.length cf)
    show Blk _ _ _ _
    simpa [outV] using this
  have K7 : Hid (Kept Nil w (w6.setCell ⟨ob, 9, none⟩ (.slice (some ⟨fh, 0, none⟩) ixs.length cf))) := (K5.out.trans k56).trans' kS (fun i hi e => by omega)
  have B27 := hid ((B25.out.kept k56 (fun h => h)).kept kS (by omega))
  have B37 := hid ((B35.out.kept k56 (fun h => h)).kept kS (by omega))
  have HCB7 : Hid (∀ k, k < ixs.length → (w6.setCell ⟨ob, 9, none⟩ (.slice (some ⟨fh, 0, none⟩) ixs.length cf)).cell? ⟨bgb, k, none⟩ = some (.int .i64 (bd s (ixs.getD k 0) : Int))) := fun k hk => (kS.cell (p := ⟨bgb, k, none⟩) (by show bgb < _; omega) (by show ¬ bgb = ob; omega)).trans ((k56.cell (p := ⟨bgb, k, none⟩) (by show bgb < _; omega) (fun h => h)).trans (HCB5.out k hk))
  have HRC7 : Hid (∀ k, k < nr → (w6.setCell ⟨ob, 9, none⟩ (.slice (some ⟨fh, 0, none⟩) ixs.length cf)).cell? ⟨rh, k, none⟩ = some (.slice (some ⟨w3.heap.size, k * L, none⟩) L L)) := fun k hk => (kS.cell (p := ⟨rh, k, none⟩) (by show rh < _; omega) (by show ¬ rh = ob; omega)).trans ((k56.cell (p := ⟨rh, k, none⟩) r2 (fun h => h)).trans (HRC5.out k hk))
  have HFC7 : Hid (∀ k, k < ixs.length → (w6.setCell ⟨ob, 9, none⟩ (.slice (some ⟨fh, 0, none⟩) ixs.length cf)).cell? ⟨fh, k, none⟩ = some (.slice (some ⟨w5.heap.size, k * L, none⟩) L L)) := fun k hk => (kS.cell (p := ⟨fh, k, none⟩) q2 (by show ¬ fh = ob; omega)).trans (hfc k hk)
  have HBW7 := hid ((HBW5.out.kept k56 (fun h => h)).kept kS (by omega))
  have HBF7 := hid (hbF.kept kS (by omega))
  have hs7 : (w6.setCell ⟨ob, 9, none⟩ (.slice (some ⟨fh, 0, none⟩) ixs.length cf)).heap.size = w6.heap.size := by simp [World.setCell]
  clear hrow hfc hbF k6 k56 B56 kS K56 PS3 hS0 B25 B35 B55 K5 HCB5 HRC5 HBW5
  go_simp
  refine justN_n ?_
  generalize w6.setCell ⟨ob, 9, none⟩ (.slice (some ⟨fh, 0, none⟩) ixs.length cf) = w7 at *
  rw [← hs7] at q2 hs6
  clear c9 f9 hs7
  go_wp2_with fail
  have PS4 : Hid (∀ W, Kept Nil w7 W → NoS3 w.heap.size ob (.slice (some ⟨mb, 0, none⟩) ms.length c) (.slice (some ⟨bgb, 0, none⟩) ixs.length cb) W) := fun W k => ⟨(B27.out.kept k (fun h => h)).cell 0, (B57.out.kept k (fun h => h)).cell 8⟩
  have hS0 := PS4.out w7.drew (Kept.refl Nil w7).drew
  obtain ⟨last, HLA⟩ : ∃ last, Hid (ixs.length = last + 1) := ⟨ixs.length - 1, by show _ = _; omega⟩
  refine wp_just (wp_region_any (by kernel_rfl) (wpAny_of_held (S := NoS3 w.heap.size ob (.slice (some ⟨mb, 0, none⟩) ms.length c) (.slice (some ⟨bgb, 0, none⟩) ixs.length cb)) _ _ _ _ ?_))
  refine takeH 0 40 (.pointer (some ⟨ob, 0, none⟩)) rfl rfl (by kernel_rfl) (by kernel_rfl) (by kernel_rfl) (fun _ _ _ h => h) (Or.inl ⟨by rfl, fun W hSW => by obtain ⟨s0, s1⟩ := hSW; go_simp⟩) hS0 ?_
  refine takeH 1 41 (.pointer (some ⟨ob, 0, none⟩)) rfl rfl (by kernel_rfl) (by kernel_rfl) (by kernel_rfl) (fun _ _ _ h => h) (Or.inl ⟨by rfl, fun W hSW => by obtain ⟨s0, s1⟩ := hSW; go_simp⟩) hS0 ?_
  refine takeH 2 42 (.pointer (some ⟨ob, 8, none⟩)) rfl rfl (by kernel_rfl) (by kernel_rfl) (by kernel_rfl) (fun _ _ _ h => h) (Or.inl ⟨by rfl, fun W hSW => by obtain ⟨s0, s1⟩ := hSW; go_simp⟩) hS0 ?_
  refine takeH 3 43 (.slice (some ⟨bgb, 0, none⟩) ixs.length cb) rfl rfl (by kernel_rfl) (by kernel_rfl) (by kernel_rfl) (fun _ _ _ h => h) (Or.inl ⟨by rfl, fun W hSW => by obtain ⟨s0, s1⟩ := hSW; go_simp⟩) hS0 ?_
  refine takeH 4 44 (.int .i64 (ixs.length : Int)) rfl rfl (by kernel_rfl) (by kernel_rfl) (by kernel_rfl) (fun _ _ _ h => h) (Or.inl ⟨by rfl, fun W hSW => by obtain ⟨s0, s1⟩ := hSW; go_simp⟩) hS0 ?_
  refine takeH 5 45 (.int .i64 (last : Int)) rfl rfl (by kernel_rfl) (by kernel_rfl) (by kernel_rfl) (fun _ _ _ h => h) (Or.inl ⟨by rfl, fun W hSW => by obtain ⟨s0, s1⟩ := hSW; go_simp; rw [IntKind.wrap_i64]; have := HLA.out; omega⟩) hS0 ?_
  refine takeH 6 46 (.pointer (some ⟨w.heap.size, 0, none⟩)) rfl rfl (by kernel_rfl) (by kernel_rfl) (by kernel_rfl) (fun _ _ _ h => h) (Or.inl ⟨by rfl, fun W hSW => by obtain ⟨s0, s1⟩ := hSW; go_simp⟩) hS0 ?_
  refine takeH 7 47 (.slice (some ⟨mb, 0, none⟩) ms.length c) rfl rfl (by kernel_rfl) (by kernel_rfl) (by kernel_rfl) (fun _ _ _ h => h) (Or.inl ⟨by rfl, fun W hSW => by obtain ⟨s0, s1⟩ := hSW; go_simp⟩) hS0 ?_
  refine takeH 8 48 (.int .i64 (ms.length : Int)) rfl rfl (by kernel_rfl) (by kernel_rfl) (by kernel_rfl) (fun _ _ _ h => h) (Or.inl ⟨by rfl, fun W hSW => by obtain ⟨s0, s1⟩ := hSW; go_simp⟩) hS0 ?_
  simp only [Act.put, List.setIfInBounds_toArray, List.set_cons_zero, List.set_cons_succ]
  refine wpAnyH_ready (rs := [9]) (by kernel_rfl) (by simp) (AllReadyH.cons rfl (fun K hK => ?_) AllReadyH.nil)
  have F : Hid (Calls Tryz.prog 56 #[.int .i64 1, .int .i64 (ms.length : Int)] w7.drew _) := newRows_rd 1 ms.length L HL.out (by omega) hfew w7.drew
  go_simp
  refine (F.out).mono ?_
  rintro e w8 ⟨nv, rfl, hrow, hbN, k8⟩
  dsimp only
  have k78 : Kept Nil w7 w8 := (Kept.refl Nil w7).drew.trans k8
  have hNBe : w7.drew.heap.size = w7.heap.size := rfl
  rw [hNBe] at hrow hbN
  obtain ⟨nh, cn, hnv, n1, n2, hnc⟩ := rows_get hrow (by omega)
  subst hnv
  have cn0 : w8.cell? ⟨nh, 0, none⟩ = some (.slice (some ⟨w7.heap.size, 0, none⟩) L L) := by have := hnc 0 (by omega); rw [Nat.zero_mul] at this; exact this
  rw [Nat.one_mul] at hbN
  have K78 := hid k78
  have hS8 := PS4.out _ K78.out
  refine hK.out _ _ hS8 (fun _ => ?_)
  clear hK K F
  refine takeH 12 6 (.int .i64 (last : Int)) rfl rfl (by kernel_rfl) (by kernel_rfl) (by kernel_rfl) (fun _ _ _ h => h) (Or.inl ⟨by rfl, fun W hSW => by obtain ⟨s0, s1⟩ := hSW; go_simp⟩) hS8 ?_
  simp only [Act.put, List.setIfInBounds_toArray, List.set_cons_zero, List.set_cons_succ]
  refine wpAnyH_ready (rs := [10]) (by kernel_rfl) (by simp) (AllReadyH.cons rfl (fun K hK => ?_) AllReadyH.nil)
  go_simp
  refine hK.out _ _ hS8 (fun _ => ?_)
  clear hK K
  refine wpAnyH_ready (rs := [11]) (by kernel_rfl) (by simp) (AllReadyH.cons rfl (fun K hK => ?_) AllReadyH.nil)
  go_simp
  refine hK.out _ _ hS8 (fun _ => ?_)
  clear hK K
  refine wpAnyH_ready (rs := [13]) (by kernel_rfl) (by simp) (AllReadyH.cons rfl (fun K hK => ?_) AllReadyH.nil)
  go_simp
  refine hK.out _ _ hS8 (fun _ => ?_)
  clear hK K
  refine wpAnyH_done (by kernel_rfl) ?_ _
  refine justN_n ?_
  have hs8 := k78.size
  have hTl := HM.out.tabs.lt
  have hMl := HM.out.sts.lt
  have hHl := HM.out.le
  have K8 := hid (K7.out.trans k78)
  have hk8s := K8.out.size
  obtain ⟨g, hgd⟩ : ∃ g : OG, g = ⟨ob, lo, hi, mb, c, vs, ms, s, st, G, bgb, cb, ixs, fh, cf, w5.heap.size, rh, cr, w3.heap.size, nr, L⟩ := ⟨_, rfl⟩
  have HGK : Hid g.Ok := by
    rw [hgd]
    exact { good := HGD.out, q := HQ.out, few := hfew, size := hs, L_eq := HL.out, bg := HBG.out, nr_eq := HNR.out, apF := ⟨by show w5.heap.size ≠ ob; omega, by show w5.heap.size ≠ mb; omega, by show ¬ (lo ≤ w5.heap.size ∧ w5.heap.size < hi); omega, by show w5.heap.size ≠ _; omega, by show w5.heap.size ≠ _; omega⟩, apW := ⟨by show w3.heap.size ≠ ob; omega, by show w3.heap.size ≠ mb; omega, by show ¬ (lo ≤ w3.heap.size ∧ w3.heap.size < hi); omega, by show w3.heap.size ≠ _; omega, by show w3.heap.size ≠ _; omega⟩, apO := ⟨by show ob ≠ mb; omega, by show ¬ (lo ≤ ob ∧ ob < hi); omega, by show ob ≠ _; omega, by show ob ≠ _; omega⟩, ne := ⟨by show w3.heap.size ≠ w5.heap.size; omega, ⟨by show w3.heap.size ≠ bgb; omega, by show w3.heap.size ≠ fh; omega, by show w3.heap.size ≠ rh; omega⟩, ⟨by show w5.heap.size ≠ bgb; omega, by show w5.heap.size ≠ fh; omega, by show w5.heap.size ≠ rh; omega⟩, ⟨by show ob ≠ bgb; omega, by show ob ≠ fh; omega, by show ob ≠ rh; omega⟩⟩ }
  have OT8 : Hid (OtAt w8 g 0 (List.replicate (ixs.length * L) 0) (List.replicate (nr * L) 0)) := by
    rw [hgd]
    have M8 := HM.out.kept K8.out
    exact { rk := ⟨B57.out.kept k78 (fun h => h), M8.sts, M8.svs, M8.le, M8.tabs⟩, bg := fun k hk => (k78.cell (p := ⟨bgb, k, none⟩) (by show bgb < _; omega) (fun h => h)).trans (HCB7.out k hk), fh := fun k hk => (k78.cell (p := ⟨fh, k, none⟩) q2 (fun h => h)).trans (HFC7.out k hk), rh := fun k hk => (k78.cell (p := ⟨rh, k, none⟩) (by show rh < _; omega) (fun h => h)).trans (HRC7.out k hk), lt := ⟨by show bgb < _; omega, by show fh < _; omega, by show rh < _; omega⟩, bf := HBF7.out.kept k78 (fun h => h), bw := HBW7.out.kept k78 (fun h => h), fl := ⟨by simp, W64.zeros _⟩, wl := ⟨by simp, W64.zeros _⟩ }
  have B38 := hid (B37.out.kept k78 (fun h => h))
  have HBN := hid hbN
  have c34 : w8.cell? ⟨w.heap.size + 1, 4, none⟩ = some (.bool false) := B38.out.cell 4
  have hgf : g.ob = ob ∧ g.fh = fh ∧ g.ixs = ixs ∧ g.cf = cf ∧ g.FB = w5.heap.size ∧ g.L = L ∧ g.rh = rh ∧ g.nr = nr ∧ g.cr = cr ∧ g.WB = w3.heap.size ∧ g.ms = ms ∧ g.s = s ∧ g.st = st ∧ g.G = G ∧ g.mb = mb ∧ g.c = c ∧ g.vs = vs ∧ g.lo = lo ∧ g.hi = hi ∧ g.bgb = bgb := by rw [hgd]; exact ⟨rfl, rfl, rfl, rfl, rfl, rfl, rfl, rfl, rfl, rfl, rfl, rfl, rfl, rfl, rfl, rfl, rfl, rfl, rfl, rfl⟩
  have HGF := hid hgf
  clear hrow hnc k8 k78 K78 hS8 hS0 PS4 hgd hgf hbN B27 B37 B57 K7 HCB7 HRC7 HFC7 HBW7 HBF7 cn0
  go_wp2_with fail
  have PS7 : Hid (∀ W, Kept Nil w8 W → NoS7 w.heap.size ob fh ixs.length cf w5.heap.size L last s W) := fun W k => by
    have O := OT8.out.kept k
    obtain ⟨e1, e2, e3, e4, e5, e6, _⟩ := HGF.out
    have a1 := O.rk.out.cell 9
    have a2 := O.fh last (by rw [e3]; have := HLA.out; omega)
    rw [e1] at a1
    rw [e2, e5, e6] at a2
    refine ⟨?_, a2, (B38.out.kept k (fun h => h)).cell 0⟩
    rw [a1]
    show some g.fv = _
    unfold OG.fv
    rw [e2, e3, e4]
  have hS0 := PS7.out w8.drew (Kept.refl Nil w8).drew
  have hlast : last < ixs.length := by have := HLA.out; omega
  refine wp_just (wp_region_last (S := NoS7 w.heap.size ob fh ixs.length cf w5.heap.size L last s) 12 (by kernel_rfl) rfl rfl rfl (by kernel_rfl) (by kernel_rfl) ?_)
  refine takeH 0 62 (.pointer (some ⟨ob, 0, none⟩)) rfl rfl (by kernel_rfl) (by kernel_rfl) (by kernel_rfl) (fun _ _ _ h => h) (Or.inl ⟨by rfl, fun W hSW => by obtain ⟨s0, s1, s2⟩ := hSW; go_simp⟩) hS0 ?_
  refine takeH 1 63 (.pointer (some ⟨ob, 0, none⟩)) rfl rfl (by kernel_rfl) (by kernel_rfl) (by kernel_rfl) (fun _ _ _ h => h) (Or.inl ⟨by rfl, fun W hSW => by obtain ⟨s0, s1, s2⟩ := hSW; go_simp⟩) hS0 ?_
  refine takeH 2 64 (.pointer (some ⟨ob, 0, none⟩)) rfl rfl (by kernel_rfl) (by kernel_rfl) (by kernel_rfl) (fun _ _ _ h => h) (Or.inl ⟨by rfl, fun W hSW => by obtain ⟨s0, s1, s2⟩ := hSW; go_simp⟩) hS0 ?_
  refine takeH 3 65 (.pointer (some ⟨ob, 9, none⟩)) rfl rfl (by kernel_rfl) (by kernel_rfl) (by kernel_rfl) (fun _ _ _ h => h) (Or.inl ⟨by rfl, fun W hSW => by obtain ⟨s0, s1, s2⟩ := hSW; go_simp⟩) hS0 ?_
  refine takeH 4 66 (.slice (some ⟨fh, 0, none⟩) ixs.length cf) rfl rfl (by kernel_rfl) (by kernel_rfl) (by kernel_rfl) (fun _ _ _ h => h) (Or.inl ⟨by rfl, fun W hSW => by obtain ⟨s0, s1, s2⟩ := hSW; go_simp⟩) hS0 ?_
  refine takeH 5 67 (.int .i64 (last : Int)) rfl rfl (by kernel_rfl) (by kernel_rfl) (by kernel_rfl) (fun _ _ _ h => h) (Or.inl ⟨by rfl, fun W hSW => by obtain ⟨s0, s1, s2⟩ := hSW; go_simp⟩) hS0 ?_
  refine takeH 6 68 (.pointer (some ⟨fh, last, none⟩)) rfl rfl (by kernel_rfl) (by kernel_rfl) (by kernel_rfl) (fun _ _ _ h => h) (Or.inl ⟨by rfl, fun W hSW => by obtain ⟨s0, s1, s2⟩ := hSW; go_simp⟩) hS0 ?_
  refine takeH 7 69 (.slice (some ⟨w5.heap.size, last * L, none⟩) L L) rfl rfl (by kernel_rfl) (by kernel_rfl) (by kernel_rfl) (fun _ _ _ h => h) (Or.inl ⟨by rfl, fun W hSW => by obtain ⟨s0, s1, s2⟩ := hSW; go_simp⟩) hS0 ?_
  refine takeH 8 70 (.slice (some ⟨w7.heap.size, 0, none⟩) L L) rfl rfl (by kernel_rfl) (by kernel_rfl) (by kernel_rfl) (fun _ _ _ h => h) (Or.inl ⟨by rfl, fun W hSW => by obtain ⟨s0, s1, s2⟩ := hSW; go_simp⟩) hS0 ?_
  refine takeH 9 71 (.pointer (some ⟨w.heap.size + 1, 0, none⟩)) rfl rfl (by kernel_rfl) (by kernel_rfl) (by kernel_rfl) (fun _ _ _ h => h) (Or.inl ⟨by rfl, fun W hSW => by obtain ⟨s0, s1, s2⟩ := hSW; go_simp⟩) hS0 ?_
  refine takeH 10 72 (.string s) rfl rfl (by kernel_rfl) (by kernel_rfl) (by kernel_rfl) (fun _ _ _ h => h) (Or.inl ⟨by rfl, fun W hSW => by obtain ⟨s0, s1, s2⟩ := hSW; go_simp⟩) hS0 ?_
  refine takeH 11 73 (.int .i64 (s.size : Int)) rfl rfl (by kernel_rfl) (by kernel_rfl) (by kernel_rfl) (fun _ _ _ h => h) (Or.inl ⟨by rfl, fun W hSW => by obtain ⟨s0, s1, s2⟩ := hSW; go_simp⟩) hS0 ?_
  simp only [Act.put, List.setIfInBounds_toArray, List.set_cons_zero, List.set_cons_succ]
  refine wpAnyH_done (by kernel_rfl) ?_ _
  unfold thenLast
  simp only [List.getElem_toArray, List.getElem_cons_succ, List.getElem_cons_zero]
  go_simp
  have hLL := HL.out
  have hre : Calls Tryz.prog 58 #[.pointer (some ⟨ob, 0, none⟩), .slice (some ⟨w5.heap.size, last * L, none⟩) L L, .slice (some ⟨w7.heap.size, 0, none⟩) L L, .int .i64 (s.size : Int)] w8.drew fun e w' => e = .returned (.tuple #[]) ∧ Kept (fun i => i = w5.heap.size) w8.drew w' ∧ ∃ cur, cur.length = L ∧ W64 cur ∧ Blk w' w5.heap.size (u64L (splice (List.replicate (ixs.length * L) 0) (last * L) cur)).toArray 132 ∧ (True → ∀ u : Nat, u < ms.length → bitAt cur 0 u = off ms (txOf s) u (runesOf s).length) := by
    obtain ⟨e1, e2, e3, e4, e5, e6, e7, e8, e9, e10, e11, e12, e13, e14, e15, e16, e17, e18, e19, e20⟩ := HGF.out
    have hR := OT8.out.rk.kept ((Kept.refl Nil w8).drew) (fun h => h) (fun h => h) (fun _ _ _ h => h) (fun h => h) (fun h => h)
    have hB := OT8.out.bf
    have hA := HGK.out.apF
    have hfl := OT8.out.fl.1
    rw [e5] at hB hA
    rw [e11, e12] at hR
    rw [e1] at hR hA
    have hfit : last * L + L ≤ (List.replicate (ixs.length * L) 0).length := by
      rw [List.length_replicate]
      have := Nat.mul_le_mul_right L (show last + 1 ≤ ixs.length by omega)
      rw [Nat.add_mul] at this
      omega
    have hend : bd s (runesOf s).length = s.size := bd_end (Nat.le_refl _)
    have := reckon_rd (c1 := L) (c2 := L) (i := (runesOf s).length) (H := True) (B2 := w7.heap.size) (o2 := 0) hR HGD.out HQ.out hfew (by omega) (Nat.le_refl _) hLL (show Blk w8.drew w5.heap.size (u64L (List.replicate (ixs.length * L) 0)).toArray 132 from hB) hfit hA (by
      intro W cur hk hcl hcw hbk
      refine ⟨List.replicate L 0, W64.zeros L, fun k hkL => ?_, fun _ u hu => by rw [bitAt_zeros]; simp⟩
      have hb := HBN.out.cell k
      rw [u64_cell (by rw [List.length_replicate]; exact hkL)] at hb
      rw [Nat.zero_add]
      exact (hk.cell (p := ⟨w7.heap.size, k, none⟩) (by show w7.heap.size < w8.drew.heap.size; have := HBN.out.lt; exact this) (by show ¬ w7.heap.size = w5.heap.size; omega)).trans hb)
    rw [hend] at this
    exact this
  refine hre.mono ?_
  rintro e w9 ⟨rfl, hk9, cur, hcl, hcw, hb9, hbits⟩
  dsimp only
  refine justN_n ?_
  have k89 : Kept (fun i => i = w5.heap.size) w8 w9 := (Kept.refl (fun i => i = w5.heap.size) w8).drew.trans hk9
  have START : Hid (∃ (blk : Nat) (wf wd : List Nat), OtAt w9 g blk wf wd ∧ (∀ j, last ≤ j → j < ixs.length → RowOk g wf j (ixs.getD j 0)) ∧ (last = 0 → blk = 0 ∧ RowsOk g wd 0 (ixs.getD 0 0)) ∧ Kept Nil w w9) := by
    obtain ⟨e1, e2, e3, e4, e5, e6, e7, e8, e9, e10, e11, e12, e13, e14, e15, e16, e17, e18, e19, e20⟩ := HGF.out
    have hla := HLA.out
    have hfit : last * L + L ≤ (List.replicate (ixs.length * L) 0).length := by
      rw [List.length_replicate]
      have := Nat.mul_le_mul_right L (show last + 1 ≤ ixs.length by omega)
      rw [Nat.add_mul] at this
      omega
    have hsl : (splice (List.replicate (ixs.length * L) 0) (last * L) cur).length = ixs.length * L := by rw [length_splice _ _ _ (by rw [hcl]; exact hfit), List.length_replicate]
    refine ⟨0, splice (List.replicate (ixs.length * L) 0) (last * L) cur, List.replicate (nr * L) 0, OT8.out.rowF HGK.out (by rw [e5]; exact k89) (by rw [e5]; exact hb9) ⟨by rw [e3, e6]; exact hsl, (W64.zeros _).splice hcw _⟩, fun j hj1 hj2 => ?_, fun h0 => by omega, K8.out.trans' k89 (fun i hi he => by omega)⟩
    have hj : j = last := by omega
    subst hj
    have hlast := HBG.out.last
    rw [show ixs.length - 1 = j by omega] at hlast
    rw [hlast]
    intro u hu
    rw [e11] at hu ⊢
    rw [e6, e12, bitAt_splice (by rw [hcl]; exact hfit) (by rw [hcl]; omega)]
    exact hbits trivial u hu
  have hlpos : 1 ≤ last := by have := HLA.out; omega
  clear hLL hre hk9 hb9 hbits hcw hcl k89 PS7 hS0 OT8 HBN c34 B38
  go_wp2_with fail
  go_loopg [8] last (fun kk v wq => ∃ k : Nat, v = .int .i64 ((k : Int) - 1) ∧ k ≤ last ∧ kk = k ∧ Hid (∃ (blk : Nat) (wf wd : List Nat), OtAt wq g blk wf wd ∧ (∀ j, k ≤ j → j < ixs.length → RowOk g wf j (ixs.getD j 0)) ∧ (k = 0 → blk = 0 ∧ RowsOk g wd 0 (ixs.getD 0 0)) ∧ Kept Nil w wq))
  case atStart => exact ⟨last, rfl, Nat.le_refl _, rfl, START⟩
  case round =>
    obtain ⟨k, rfl, hk, hkk, HI⟩ := hrel
    clear START
    by_cases hk0 : 0 < k
    · obtain ⟨m, rfl⟩ : ∃ m, k = m + 1 := ⟨k - 1, by omega⟩
      have em : ((m + 1 : Nat) : Int) - 1 = (m : Int) := by omega
      rw [em]
      have hge : (0 : Int) ≤ (m : Int) := by omega
      have hml : m < ixs.length := by omega
      obtain ⟨blk, wf, wd, hO, hF, hZ, hKq⟩ := HI.out
      have F : Calls Tryz.prog 59 #[.pointer (some ⟨ob, 0, none⟩), .int .i64 (m : Int)] wr fun e w' => e = .returned (.tuple #[]) ∧ ∃ wd', OtAt w' g m wf wd' ∧ RowsOk g wd' m (g.ixs.getD m 0) ∧ Kept (fun i => i = g.ob ∨ i = g.WB) wr w' := by
        obtain ⟨e1, e2, e3, e4, e5, e6, e7, e8, e9, e10, e11, e12, e13, e14, e15, e16, e17, e18, e19, e20⟩ := HGF.out
        have := load_rd HGK.out hO (b := m) (by rw [e3]; omega) (by rw [e3]; exact hF (m + 1) (Nat.le_refl _) (by omega))
        rw [e1] at this ⊢
        exact this
      have HF2 := hid hF
      have HKq := hid hKq
      have F := hid F
      clear hO hF hZ hKq HI em
      go_wp2_with fail
      refine (F.out).mono ?_
      rintro e w10 ⟨rfl, wd', hO2, hR2, k10⟩
      have HO2 := hid hO2
      have HR2 := hid hR2
      have PS12 : Hid (∀ W, Kept Nil w10 W → NoS12 ob fh ixs.length cf w5.heap.size L m rh nr cr w3.heap.size W) := fun W kW => by
        have O := HO2.out.kept kW
        obtain ⟨e1, e2, e3, e4, e5, e6, e7, e8, e9, e10, _⟩ := HGF.out
        have a1 := O.rk.out.cell 9
        have a2 := O.rk.out.cell 11
        have a3 := O.fh m (by rw [e3]; omega)
        have a4 := O.rh 0 (by rw [e8]; omega)
        rw [e1] at a1 a2
        rw [e2, e5, e6] at a3
        rw [e7, e10, e6] at a4
        refine ⟨⟨?_, ?_⟩, a3, ?_⟩
        · rw [a1]; show some g.fv = _; unfold OG.fv; rw [e2, e3, e4]
        · rw [a2]; show some g.rv = _; unfold OG.rv; rw [e7, e8, e9]
        · rw [a4]; unfold rowV; rw [Nat.zero_mul]
      have hS0 := PS12.out w10.drew (Kept.refl Nil w10).drew
      have HK10 := hid k10
      clear hO2 hR2 k10 F
      go_wp2_with fail
      refine wp_just (wp_region_last (S := NoS12 ob fh ixs.length cf w5.heap.size L m rh nr cr w3.heap.size) 13 (by kernel_rfl) rfl rfl rfl (by kernel_rfl) (by kernel_rfl) ?_)
      refine takeH 0 84 (.pointer (some ⟨ob, 0, none⟩)) rfl rfl (by kernel_rfl) (by kernel_rfl) (by kernel_rfl) (fun _ _ _ h => h) (Or.inl ⟨by rfl, fun W hSW => by obtain ⟨⟨s0, s1⟩, s2, s3⟩ := hSW; go_simp⟩) hS0 ?_
      refine takeH 1 85 (.pointer (some ⟨ob, 0, none⟩)) rfl rfl (by kernel_rfl) (by kernel_rfl) (by kernel_rfl) (fun _ _ _ h => h) (Or.inl ⟨by rfl, fun W hSW => by obtain ⟨⟨s0, s1⟩, s2, s3⟩ := hSW; go_simp⟩) hS0 ?_
      refine takeH 2 86 (.pointer (some ⟨ob, 9, none⟩)) rfl rfl (by kernel_rfl) (by kernel_rfl) (by kernel_rfl) (fun _ _ _ h => h) (Or.inl ⟨by rfl, fun W hSW => by obtain ⟨⟨s0, s1⟩, s2, s3⟩ := hSW; go_simp⟩) hS0 ?_
      refine takeH 3 87 (.slice (some ⟨fh, 0, none⟩) ixs.length cf) rfl rfl (by kernel_rfl) (by kernel_rfl) (by kernel_rfl) (fun _ _ _ h => h) (Or.inl ⟨by rfl, fun W hSW => by obtain ⟨⟨s0, s1⟩, s2, s3⟩ := hSW; go_simp⟩) hS0 ?_
      refine takeH 4 88 (.int .i64 (m : Int)) rfl rfl (by kernel_rfl) (by kernel_rfl) (by kernel_rfl) (fun _ _ _ h => h) (Or.inl ⟨by rfl, fun W hSW => by obtain ⟨⟨s0, s1⟩, s2, s3⟩ := hSW; go_simp⟩) hS0 ?_
      refine takeH 5 89 (.pointer (some ⟨fh, m, none⟩)) rfl rfl (by kernel_rfl) (by kernel_rfl) (by kernel_rfl) (fun _ _ _ h => h) (Or.inl ⟨by rfl, fun W hSW => by obtain ⟨⟨s0, s1⟩, s2, s3⟩ := hSW; go_simp⟩) hS0 ?_
      refine takeH 6 90 (.slice (some ⟨w5.heap.size, m * L, none⟩) L L) rfl rfl (by kernel_rfl) (by kernel_rfl) (by kernel_rfl) (fun _ _ _ h => h) (Or.inl ⟨by rfl, fun W hSW => by obtain ⟨⟨s0, s1⟩, s2, s3⟩ := hSW; go_simp⟩) hS0 ?_
      refine takeH 7 91 (.pointer (some ⟨ob, 0, none⟩)) rfl rfl (by kernel_rfl) (by kernel_rfl) (by kernel_rfl) (fun _ _ _ h => h) (Or.inl ⟨by rfl, fun W hSW => by obtain ⟨⟨s0, s1⟩, s2, s3⟩ := hSW; go_simp⟩) hS0 ?_
      refine takeH 8 92 (.pointer (some ⟨ob, 0, none⟩)) rfl rfl (by kernel_rfl) (by kernel_rfl) (by kernel_rfl) (fun _ _ _ h => h) (Or.inl ⟨by rfl, fun W hSW => by obtain ⟨⟨s0, s1⟩, s2, s3⟩ := hSW; go_simp⟩) hS0 ?_
      refine takeH 9 93 (.pointer (some ⟨ob, 11, none⟩)) rfl rfl (by kernel_rfl) (by kernel_rfl) (by kernel_rfl) (fun _ _ _ h => h) (Or.inl ⟨by rfl, fun W hSW => by obtain ⟨⟨s0, s1⟩, s2, s3⟩ := hSW; go_simp⟩) hS0 ?_
      refine takeH 10 94 (.slice (some ⟨rh, 0, none⟩) nr cr) rfl rfl (by kernel_rfl) (by kernel_rfl) (by kernel_rfl) (fun _ _ _ h => h) (Or.inl ⟨by rfl, fun W hSW => by obtain ⟨⟨s0, s1⟩, s2, s3⟩ := hSW; go_simp⟩) hS0 ?_
      refine takeH 11 95 (.pointer (some ⟨rh, 0, none⟩)) rfl rfl (by kernel_rfl) (by kernel_rfl) (by kernel_rfl) (fun _ _ _ h => h) (Or.inl ⟨by rfl, fun W hSW => by obtain ⟨⟨s0, s1⟩, s2, s3⟩ := hSW; go_simp⟩) hS0 ?_
      refine takeH 12 96 (.slice (some ⟨w3.heap.size, 0, none⟩) L L) rfl rfl (by kernel_rfl) (by kernel_rfl) (by kernel_rfl) (fun _ _ _ h => h) (Or.inl ⟨by rfl, fun W hSW => by obtain ⟨⟨s0, s1⟩, s2, s3⟩ := hSW; go_simp⟩) hS0 ?_
      simp only [Act.put, List.setIfInBounds_toArray, List.set_cons_zero, List.set_cons_succ]
      refine wpAnyH_done (by kernel_rfl) ?_ _
      unfold thenLast
      refine wp_copy_words (.tmp 90) (.tmp 96) 121 121 rfl 132 Tryz.underlying121 (by kernel_rfl) w5.heap.size (m * L) L L L w3.heap.size 0 rfl rfl wf 132 ?l0 (seg wd' 0 L) ?l1 ?l2 ?l3 ?_
      case l0 =>
        have := HO2.out.bf
        rw [HGF.out.2.2.2.2.1] at this
        exact this
      case l1 =>
        refine seg_length ?_
        have := HO2.out.wl.1
        rw [HGF.out.2.2.2.2.2.2.2.1, HGF.out.2.2.2.2.2.1] at this
        have h2 := Nat.mul_le_mul_right L hnp
        omega
      case l2 =>
        intro q hq
        have h1 := HO2.out.wl.1
        rw [HGF.out.2.2.2.2.2.2.2.1, HGF.out.2.2.2.2.2.1] at h1
        have h2 := Nat.mul_le_mul_right L hnp
        have h3 := HO2.out.bw.cell q
        rw [HGF.out.2.2.2.2.2.2.2.2.2.1, u64_cell (by omega)] at h3
        rw [seg_getD hq, Nat.zero_add]
        exact h3
      case l3 =>
        have h1 := HO2.out.fl.1
        rw [HGF.out.2.2.1, HGF.out.2.2.2.2.2.1] at h1
        have := Nat.mul_le_mul_right L (show m + 1 ≤ ixs.length by omega)
        rw [Nat.add_mul] at this
        omega
      intro w11 hb11 hk11
      have k11 : Kept (fun i => i = w5.heap.size) w10 w11 := (Kept.refl (fun i => i = w5.heap.size) w10).drew.trans hk11
      have FIN : Hid (∃ (blk : Nat) (wf wd : List Nat), OtAt w11 g blk wf wd ∧ (∀ j, m ≤ j → j < ixs.length → RowOk g wf j (ixs.getD j 0)) ∧ (m = 0 → blk = 0 ∧ RowsOk g wd 0 (ixs.getD 0 0)) ∧ Kept Nil w w11) := by
        obtain ⟨e1, e2, e3, e4, e5, e6, e7, e8, e9, e10, e11, e12, e13, e14, e15, e16, e17, e18, e19, e20⟩ := HGF.out
        have h1 := HO2.out.fl.1
        rw [e3, e6] at h1
        have h2 := HO2.out.wl.1
        rw [e8, e6] at h2
        have h3 := Nat.mul_le_mul_right L (show m + 1 ≤ ixs.length by omega)
        rw [Nat.add_mul] at h3
        have h4 := Nat.mul_le_mul_right L hnp
        have hsg : (seg wd' 0 L).length = L := seg_length (by omega)
        have hsl : (splice wf (m * L) (seg wd' 0 L)).length = ixs.length * L := by rw [length_splice _ _ _ (by omega)]; exact h1
        have hLe := HL.out
        refine ⟨m, splice wf (m * L) (seg wd' 0 L), wd', HO2.out.rowF HGK.out (by rw [e5]; exact k11) (by rw [e5]; exact hb11) ⟨by rw [e3, e6]; exact hsl, HO2.out.fl.2.splice (HO2.out.wl.2.seg _ _) _⟩, fun j hj1 hj2 u hu => ?_, fun h0 => ⟨h0, by have := HR2.out; rw [e3] at this; rw [h0] at this; exact this⟩, (HKq.out.trans' HK10.out (fun i hi he => by rw [e1, e10] at he; omega)).trans' k11 (fun i hi he => by omega)⟩
        rw [e11] at hu
        by_cases ej : j = m
        · subst ej
          rw [e6, bitAt_splice (by omega) (by omega), bitAt_seg (by omega)]
          have := HR2.out (ixs.getD j 0) (by rw [e3]; exact Nat.le_refl _) (by rw [e3]; exact (HBG.out.step j (by omega)).1) u (by rw [e11]; exact hu)
          have ez : bd g.s (ixs.getD j 0) - g.from j = 0 := by unfold OG.from; rw [e3]; omega
          rw [ez, Nat.zero_mul] at this
          exact this
        · have hap := rows_apart (L := L) (fun h => ej h.symm : m ≠ j)
          have := HF2.out j (by omega) hj2 u (by rw [e11]; exact hu)
          rw [e6] at this ⊢
          rw [bitAt_other (L := L) (by omega) (by omega) (by omega)]
          exact this
      clear hb11 hk11 k11 PS12 hS0 HO2 HR2 HK10 HF2 HKq
      simp only [List.getElem_toArray, List.getElem_cons_succ, List.getElem_cons_zero, Act.put, List.setIfInBounds_toArray, List.set_cons_zero, List.set_cons_succ]
      refine justN_n ?_
      go_wp2_with fail
      go_roundg m
      case measure => omega
      case rel => exact ⟨m, rfl, by omega, rfl, FIN⟩
    · have hk00 : k = 0 := by omega
      subst hk00
      have FIN : Hid (∃ (wf wd : List Nat), OutAt wr g 0 wf wd ∧ Kept Nil w wr) := by
        obtain ⟨blk, wf, wd, hO, hF, hZ, hKq⟩ := HI.out
        obtain ⟨e1, e2, e3, _⟩ := HGF.out
        obtain ⟨rfl, hZ2⟩ := hZ rfl
        exact ⟨wf, wd, ⟨hO, by rw [e3]; omega, fun j hj => by rw [e3] at hj ⊢; exact hF j (Nat.zero_le _) hj, by rw [e3]; exact hZ2⟩, hKq⟩
      clear HI
      go_wp2_with fail
      go_ret
      obtain ⟨wf, wd, hO, hKq⟩ := FIN.out
      obtain ⟨e1, e2, e3, e4, e5, e6, e7, e8, e9, e10, e11, e12, e13, e14, e15, e16, e17, e18, e19, e20⟩ := HGF.out
      refine ⟨g, wf, wd, by rw [e1]; rfl, ⟨e11, e12, e13, e14, e15, e16, e17, by rw [e1]; omega, by rw [e10]; omega, e18, e19, by rw [e20]; omega, by rw [e2]; omega, by rw [e7]; omega, by rw [e5]; omega⟩, HGK.out, hO, hKq⟩
end Go.Proofs.YtnbfddjaonlmaaaGreatDoor
