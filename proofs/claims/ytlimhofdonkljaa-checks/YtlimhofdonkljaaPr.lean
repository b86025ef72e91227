/- The program's answer: Read, trawl.Check: which error it tells, and where. -/
import Derived.Test.YtlimhofdonkljaaNr
namespace Go.Proofs.Ytlimhofdonkljaa
open Go.RowKit Go.Maps
set_option linter.unusedVariables false

def st0 (s : ByteArray) : RS := { next := 0, flt := fltOf s (scanFrom s (s.size + 1) 0), groups := 0, names := [] }
def finFlt (g : RG) (s : ByteArray) : Flt := if 1000 < (pWhole g (st0 s)).2.size then (pWhole g (st0 s)).1.flt.note 7 0 else (pWhole g (st0 s)).1.flt
def pick (F : Flt) : Int × Int :=
  match F.rune with
  | some p => (2, p)
  | none => match F.form with
    | some p => (3, p)
    | none => match F.rep with
      | some p => (4, p)
      | none => match F.cls with
        | some p => (5, p)
        | none => match F.nam with
          | some p => (6, p)
          | none => match F.big with
            | some p => (7, p)
            | none => (0, 0)
theorem pick_hit {F : Flt} {j p : Int} (h2 : 2 ≤ j) (h7 : j ≤ 7) (hlt : ∀ i, 2 ≤ i → i < j → F.get i = none) (h : F.get j = some p) : pick F = (j, p) := by
  have : j = 2 ∨ j = 3 ∨ j = 4 ∨ j = 5 ∨ j = 6 ∨ j = 7 := by omega
  have g2 : F.get 2 = F.rune := rfl
  have g3 : F.get 3 = F.form := rfl
  have g4 : F.get 4 = F.rep := rfl
  have g5 : F.get 5 = F.cls := rfl
  have g6 : F.get 6 = F.nam := rfl
  have g7 : F.get 7 = F.big := rfl
  rcases this with rfl | rfl | rfl | rfl | rfl | rfl
  · rw [g2] at h; simp [pick, h]
  · rw [g3] at h; have a := hlt 2 (by omega) (by omega); rw [g2] at a; simp [pick, h, a]
  · rw [g4] at h; have a := hlt 2 (by omega) (by omega); have b := hlt 3 (by omega) (by omega); rw [g2] at a; rw [g3] at b; simp [pick, h, a, b]
  · rw [g5] at h; have a := hlt 2 (by omega) (by omega); have b := hlt 3 (by omega) (by omega); have c := hlt 4 (by omega) (by omega); rw [g2] at a; rw [g3] at b; rw [g4] at c; simp [pick, h, a, b, c]
  · rw [g6] at h; have a := hlt 2 (by omega) (by omega); have b := hlt 3 (by omega) (by omega); have c := hlt 4 (by omega) (by omega); have d := hlt 5 (by omega) (by omega); rw [g2] at a; rw [g3] at b; rw [g4] at c; rw [g5] at d; simp [pick, h, a, b, c, d]
  · rw [g7] at h; have a := hlt 2 (by omega) (by omega); have b := hlt 3 (by omega) (by omega); have c := hlt 4 (by omega) (by omega); have d := hlt 5 (by omega) (by omega); have e := hlt 6 (by omega) (by omega); rw [g2] at a; rw [g3] at b; rw [g4] at c; rw [g5] at d; rw [g6] at e; simp [pick, h, a, b, c, d, e]
theorem pick_none {F : Flt} (hlt : ∀ i, 2 ≤ i → i < 8 → F.get i = none) : pick F = (0, 0) := by
  have a := hlt 2 (by omega) (by omega); have b := hlt 3 (by omega) (by omega); have c := hlt 4 (by omega) (by omega); have d := hlt 5 (by omega) (by omega); have e := hlt 6 (by omega) (by omega); have f := hlt 7 (by omega) (by omega)
  change F.rune = none at a; change F.form = none at b; change F.rep = none at c; change F.cls = none at d; change F.nam = none at e; change F.big = none at f
  simp [pick, a, b, c, d, e, f]

theorem own_use {g : RG} {i : Nat} (h : g.own i) : g.use i := by rcases h with h | h | h <;> simp [RG.use, h]

/-- the way out of Read -/
theorem pat_ret {Q : Ending → World → Prop} {a : Act} {W : World} {b : Nat} {x e p : Int} {y : Option Nat} (h2 : a.tmps.getD 2 undef = .pointer (some ⟨b, 0, none⟩)) (h3 : a.tmps.getD 3 undef = .int .i64 e) (h4 : a.tmps.getD 4 undef = .int .i64 p) (hd : a.defers = [])
    (hb : Blk W b #[.int .i64 x, .map y] 35) (hQ : Q (.returned (.tuple #[.agg #[.int .i64 x, .map y], .int .i64 e, .int .i64 p])) W) : bodyPost Try.prog Try.f9 Q Exit.ret a W := by
  have r0 : W.cell? ⟨b, 0, none⟩ = some (.int .i64 x) := hb.cell 0
  have r1 : W.cell? ⟨b, 1, none⟩ = some (.map y) := hb.cell 1
  have s2 : a.tmps[2]?.getD undef = .pointer (some ⟨b, 0, none⟩) := by simpa using h2
  have s3 : a.tmps[3]?.getD undef = .int .i64 e := by simpa using h3
  have s4 : a.tmps[4]?.getD undef = .int .i64 p := by simpa using h4
  exact bodyPost_ret (v := .tuple #[.agg #[.int .i64 x, .map y], .int .i64 e, .int .i64 p]) (by simp [results, Try.results9, go_sem, s2, s3, s4, r0, r1]) hd hQ

/-- of a text that is too long -/
theorem read_long (s : ByteArray) (w : World) (hs : 300 < s.size) (hm : s.size ≤ maxLen) :
    Calls Try.prog 9 #[.string s] w fun e w' => e = .returned (.tuple #[.agg #[.int .i64 0, .map none], .int .i64 1, .int .i64 0]) ∧ Kept Nil w w' := by
  have hb : (300 : Int) < (s.size : Int) := by omega
  go_enter Try.func9, Try.ntmps9
  go_wp2_with fail
  exact bodyPost_ret (v := .tuple #[.agg #[.int .i64 0, .map none], .int .i64 1, .int .i64 0]) (by simp [results, Try.results9, go_sem]) rfl ⟨rfl, (Kept.refl _ _).alloc _⟩

set_option maxRecDepth 100000 in
set_option maxHeartbeats 1000000 in
theorem read_short (s : ByteArray) (w : World) (hs : s.size ≤ 300) :
    Calls Try.prog 9 #[.string s] w fun e w' => ∃ (g : RG) (pat : Value) (st : RS), g.rs = (scanFrom s (s.size + 1) 0).map (·.2) ∧ g.ps = (scanFrom s (s.size + 1) 0).map (fun p => (p.1 : Int)) ++ [(s.size : Int)] ∧
      e = .returned (.tuple #[pat, .int .i64 (pick (finFlt g s)).1, .int .i64 (pick (finFlt g s)).2]) ∧ Kept Nil w w' ∧
      (∃ x y, pat = .agg #[.int .i64 x, .map y]) ∧ st = (pWhole g (st0 s)).1 ∧
      ((pick (finFlt g s)).1 = 0 → pat = .agg #[.int .i64 st.groups, .map (some g.bn)] ∧ RdAt w' g { st with flt := finFlt g s } ∧ ∀ i, g.use i → w.heap.size ≤ i) := by
  have hb : ¬ (300 : Int) < (s.size : Int) := by omega
  go_enter Try.func9, Try.ntmps9
  go_wp2_with fail
  refine (newReader_rd s _ hs).mono ?_
  rintro e w1 ⟨g, rfl, hgr, hgp, hR, huse, hk1⟩
  go_wp2_with fail
  refine (whole_rd hR).mono ?_
  rintro e w2 ⟨v, rfl, h2, hp2, hk2⟩
  obtain ⟨k', ao, n, cap, l, hh2, hv⟩ := hp2.quad
  rw [hv] at hp2 ⊢
  clear hv
  go_wp2_with fail
  refine (size_rd hp2 (Nat.le_refl _) _ (Kept.refl _ _)).mono ?_
  rintro e w3 ⟨rfl, hk3⟩
  have h3 := h2.nil hk3
  have hk24' : Kept g.own w1 w3 := hk2.trans (hk3.mono (fun _ hx => hx.elim))
  by_cases hbig : 1000 < (pWhole g (st0 s)).2.size
  · have hfin : finFlt g s = (pWhole g (st0 s)).1.flt.note 7 0 := by simp [finFlt, hbig]
    change 1000 < (pWhole g { next := 0, flt := fltOf s (scanFrom s (s.size + 1) 0), groups := 0, names := [] }).2.size at hbig
    go_wp2_with fail
    refine (note_any h3 7 0 (by omega) (by omega)).mono ?_
    rintro e w4 ⟨rfl, h4', hk4⟩
    have h4 : RdAt w4 g { (pWhole g (st0 s)).1 with flt := finFlt g s } := by rw [hfin]; exact h4'
    have hk24 := hk24'.trans hk4
    clear h4' hk4 hk24' h3 hfin
    have kw4 : Kept Nil w w4 := ((((Kept.refl Nil w).alloc (.cells #[.int .i64 0, .map none] 35)).trans hk1).trans' (hk24) (fun i hi ho => by
      have := huse i (own_use ho)
      simp at this; omega))
    have b4 : Blk w4 w.heap.size #[.int .i64 0, .map none] 35 := ((Blk.new w #[.int .i64 0, .map none] 35).kept hk1 (fun hx => hx)).kept hk24 (fun ho => by
      have := huse w.heap.size (own_use ho)
      simp at this; omega)
    clear hk1 hk2 hk3 hk24
    obtain ⟨D, hD, hF⟩ := h4.fm
    generalize hFF : finFlt g s = F at *
    simp only at hF
    go_wp2_with fail
    go_loopg [6] 6 (fun kk v wr => ∃ j : Int, v = .int .i64 j ∧ 2 ≤ j ∧ j ≤ 8 ∧ kk = (8 - j).toNat ∧ Hid (∀ i, 2 ≤ i → i < j → F.get i = none) ∧ wr = w4)
    case atStart => exact ⟨2, rfl, by omega, by omega, rfl, fun i h1 h2 => by omega, rfl⟩
    case round =>
      obtain ⟨j, rfl, hj2, hj8, rfl, HN, rfl⟩ := hrel
      have c3 : wr.cell? ⟨g.b, 3, none⟩ = some (.map (some g.bf)) := h4.blk.cell 3
      have e0 : wr.cell? ⟨w.heap.size, 0, none⟩ = some (.int .i64 0) := b4.cell 0
      have e1 : wr.cell? ⟨w.heap.size, 1, none⟩ = some (.map none) := b4.cell 1
      have f0 : wr.frozen? ⟨w.heap.size, 0, none⟩ = false := b4.frozen 0
      have f1 : wr.frozen? ⟨w.heap.size, 1, none⟩ = false := b4.frozen 1
      by_cases hj : j ≤ 7
      · have hkey : keyOf Try.prog 22 (.int .i64 j) = some (.int .i64 j) := keyOf_int_mk Try.underlying22 (WalkArith.wf_i64 (by omega))
        cases hget : F.get j with
        | none =>
          have hh : has D (.int .i64 j) = false := by rw [hF.has, hget]; rfl
          go_wp2_with (at_lookup; refine wpList_lookup_own_ok_int _ rfl _ _ 59 rfl 22 3 .i64 lawErr Try.underlying59 Try.underlying3 (zeroInt _) g.bf _ D rfl hD _ _ rfl hkey ?_; intro c hat hwc)
          go_roundg (8 - (j + 1)).toNat
          case measure => omega
          case rel =>
            refine ⟨j + 1, rfl, by omega, by omega, rfl, ?_, rfl⟩
            intro i h1 h2
            by_cases hi : i = j
            · rw [hi]; exact hget
            · exact HN.out i h1 (by omega)
        | some pl =>
          have hh : has D (.int .i64 j) = true := by rw [hF.has, hget]; rfl
          have hval := hF.val j pl hget
          have hpk := pick_hit hj2 hj HN.out hget
          have HPK : Hid (pick F = (j, pl)) := hpk
          have HVAL : Hid (D.atKey (.int .i64 j) (.lit (.int .i64 0)) = .lit (.int .i64 pl)) := hval
          clear hpk hval
          go_wp2_with (at_lookup; refine wpList_lookup_own_ok_int _ rfl _ _ 59 rfl 22 3 .i64 lawErr Try.underlying59 Try.underlying3 (zeroInt _) g.bf _ D rfl hD _ _ rfl hkey ?_; intro c hat hwc)
          have kz := ((Kept.refl (fun i => i = w.heap.size) wr).setCell (p := ⟨w.heap.size, 0, none⟩) (Or.inl rfl) (.int .i64 0)).setCell (p := ⟨w.heap.size, 1, none⟩) (Or.inl rfl) (.map none)
          have kz2 := kw4.trans' kz (fun i hi he => by omega)
          have hcp : c = pl := by
            have h1 := hat
            rw [HVAL.out] at h1
            simpa using h1.symm
          have bz := (b4.setCell 0 (.int .i64 0)).setCell 1 (.map none)
          refine pat_ret (b := w.heap.size) (x := 0) (y := none) (e := j) (p := c) rfl rfl rfl rfl bz ?_
          refine ⟨g, .agg #[.int .i64 0, .map none], _, hgr, hgp, ?_, kz2, ⟨0, none, rfl⟩, rfl, ?_⟩
          · rw [hFF, HPK.out, hcp]
          · rw [hFF, HPK.out]; intro h0; simp only at h0; omega
      · have ej : j = 8 := by omega
        have hpk := pick_none (F := F) (fun i h1 h2 => HN.out i h1 (by omega))
        have HPK : Hid (pick F = (0, 0)) := hpk
        clear hpk HN
        subst ej
        have c4 : wr.cell? ⟨g.b, 4, none⟩ = some (.int .i64 (pWhole g (st0 s)).1.groups) := h4.blk.cell 4
        have c5 : wr.cell? ⟨g.b, 5, none⟩ = some (.map (some g.bn)) := h4.blk.cell 5
        go_wp2_with fail
        go_region
        all_goals go_wp2_with fail
        all_goals
          have kz := (((Kept.refl (fun i => i = w.heap.size) wr).setCell (p := ⟨w.heap.size, 0, none⟩) (Or.inl rfl) (.int .i64 (pWhole g (st0 s)).1.groups)).setCell (p := ⟨w.heap.size, 1, none⟩) (Or.inl rfl) (.map (some g.bn))).drew
          have kz2 := kw4.trans' kz (fun i hi he => by omega)
          have bz := ((b4.setCell 0 (.int .i64 (pWhole g (st0 s)).1.groups)).setCell 1 (.map (some g.bn))).drew
          refine pat_ret (b := w.heap.size) (x := (pWhole g (st0 s)).1.groups) (y := some g.bn) (e := 0) (p := 0) rfl rfl rfl rfl bz ?_
          refine ⟨g, .agg #[.int .i64 (pWhole g (st0 s)).1.groups, .map (some g.bn)], _, hgr, hgp, ?_, kz2, ⟨(pWhole g (st0 s)).1.groups, some g.bn, rfl⟩, rfl, ?_⟩
          · rw [hFF, HPK.out]
          · intro _
            refine ⟨rfl, ?_, fun i hi => by have := huse i hi; simp at this; omega⟩
            rw [hFF]
            exact h4.kept kz (fun i hi he => by have := huse i hi; simp at this; omega)
  · have hfin : finFlt g s = (pWhole g (st0 s)).1.flt := by simp [finFlt, hbig]
    change ¬ 1000 < (pWhole g { next := 0, flt := fltOf s (scanFrom s (s.size + 1) 0), groups := 0, names := [] }).2.size at hbig
    have h4 : RdAt w3 g { (pWhole g (st0 s)).1 with flt := finFlt g s } := by rw [hfin]; exact h3
    obtain ⟨w4, hw4⟩ : ∃ w4, w4 = w3 := ⟨_, rfl⟩
    have hk24 := hk24'
    rw [← hw4] at h4 hk24 ⊢
    clear hk24' h3 hfin hw4
    have kw4 : Kept Nil w w4 := ((((Kept.refl Nil w).alloc (.cells #[.int .i64 0, .map none] 35)).trans hk1).trans' (hk24) (fun i hi ho => by
      have := huse i (own_use ho)
      simp at this; omega))
    have b4 : Blk w4 w.heap.size #[.int .i64 0, .map none] 35 := ((Blk.new w #[.int .i64 0, .map none] 35).kept hk1 (fun hx => hx)).kept hk24 (fun ho => by
      have := huse w.heap.size (own_use ho)
      simp at this; omega)
    clear hk1 hk2 hk3 hk24
    obtain ⟨D, hD, hF⟩ := h4.fm
    generalize hFF : finFlt g s = F at *
    simp only at hF
    go_wp2_with fail
    go_loopg [6] 6 (fun kk v wr => ∃ j : Int, v = .int .i64 j ∧ 2 ≤ j ∧ j ≤ 8 ∧ kk = (8 - j).toNat ∧ Hid (∀ i, 2 ≤ i → i < j → F.get i = none) ∧ wr = w4)
    case atStart => exact ⟨2, rfl, by omega, by omega, rfl, fun i h1 h2 => by omega, rfl⟩
    case round =>
      obtain ⟨j, rfl, hj2, hj8, rfl, HN, rfl⟩ := hrel
      have c3 : wr.cell? ⟨g.b, 3, none⟩ = some (.map (some g.bf)) := h4.blk.cell 3
      have e0 : wr.cell? ⟨w.heap.size, 0, none⟩ = some (.int .i64 0) := b4.cell 0
      have e1 : wr.cell? ⟨w.heap.size, 1, none⟩ = some (.map none) := b4.cell 1
      have f0 : wr.frozen? ⟨w.heap.size, 0, none⟩ = false := b4.frozen 0
      have f1 : wr.frozen? ⟨w.heap.size, 1, none⟩ = false := b4.frozen 1
      by_cases hj : j ≤ 7
      · have hkey : keyOf Try.prog 22 (.int .i64 j) = some (.int .i64 j) := keyOf_int_mk Try.underlying22 (WalkArith.wf_i64 (by omega))
        cases hget : F.get j with
        | none =>
          have hh : has D (.int .i64 j) = false := by rw [hF.has, hget]; rfl
          go_wp2_with (at_lookup; refine wpList_lookup_own_ok_int _ rfl _ _ 59 rfl 22 3 .i64 lawErr Try.underlying59 Try.underlying3 (zeroInt _) g.bf _ D rfl hD _ _ rfl hkey ?_; intro c hat hwc)
          go_roundg (8 - (j + 1)).toNat
          case measure => omega
          case rel =>
            refine ⟨j + 1, rfl, by omega, by omega, rfl, ?_, rfl⟩
            intro i h1 h2
            by_cases hi : i = j
            · rw [hi]; exact hget
            · exact HN.out i h1 (by omega)
        | some pl =>
          have hh : has D (.int .i64 j) = true := by rw [hF.has, hget]; rfl
          have hval := hF.val j pl hget
          have hpk := pick_hit hj2 hj HN.out hget
          have HPK : Hid (pick F = (j, pl)) := hpk
          have HVAL : Hid (D.atKey (.int .i64 j) (.lit (.int .i64 0)) = .lit (.int .i64 pl)) := hval
          clear hpk hval
          go_wp2_with (at_lookup; refine wpList_lookup_own_ok_int _ rfl _ _ 59 rfl 22 3 .i64 lawErr Try.underlying59 Try.underlying3 (zeroInt _) g.bf _ D rfl hD _ _ rfl hkey ?_; intro c hat hwc)
          have kz := ((Kept.refl (fun i => i = w.heap.size) wr).setCell (p := ⟨w.heap.size, 0, none⟩) (Or.inl rfl) (.int .i64 0)).setCell (p := ⟨w.heap.size, 1, none⟩) (Or.inl rfl) (.map none)
          have kz2 := kw4.trans' kz (fun i hi he => by omega)
          have hcp : c = pl := by
            have h1 := hat
            rw [HVAL.out] at h1
            simpa using h1.symm
          have bz := (b4.setCell 0 (.int .i64 0)).setCell 1 (.map none)
          refine pat_ret (b := w.heap.size) (x := 0) (y := none) (e := j) (p := c) rfl rfl rfl rfl bz ?_
          refine ⟨g, .agg #[.int .i64 0, .map none], _, hgr, hgp, ?_, kz2, ⟨0, none, rfl⟩, rfl, ?_⟩
          · rw [hFF, HPK.out, hcp]
          · rw [hFF, HPK.out]; intro h0; simp only at h0; omega
      · have ej : j = 8 := by omega
        have hpk := pick_none (F := F) (fun i h1 h2 => HN.out i h1 (by omega))
        have HPK : Hid (pick F = (0, 0)) := hpk
        clear hpk HN
        subst ej
        have c4 : wr.cell? ⟨g.b, 4, none⟩ = some (.int .i64 (pWhole g (st0 s)).1.groups) := h4.blk.cell 4
        have c5 : wr.cell? ⟨g.b, 5, none⟩ = some (.map (some g.bn)) := h4.blk.cell 5
        go_wp2_with fail
        go_region
        all_goals go_wp2_with fail
        all_goals
          have kz := (((Kept.refl (fun i => i = w.heap.size) wr).setCell (p := ⟨w.heap.size, 0, none⟩) (Or.inl rfl) (.int .i64 (pWhole g (st0 s)).1.groups)).setCell (p := ⟨w.heap.size, 1, none⟩) (Or.inl rfl) (.map (some g.bn))).drew
          have kz2 := kw4.trans' kz (fun i hi he => by omega)
          have bz := ((b4.setCell 0 (.int .i64 (pWhole g (st0 s)).1.groups)).setCell 1 (.map (some g.bn))).drew
          refine pat_ret (b := w.heap.size) (x := (pWhole g (st0 s)).1.groups) (y := some g.bn) (e := 0) (p := 0) rfl rfl rfl rfl bz ?_
          refine ⟨g, .agg #[.int .i64 (pWhole g (st0 s)).1.groups, .map (some g.bn)], _, hgr, hgp, ?_, kz2, ⟨(pWhole g (st0 s)).1.groups, some g.bn, rfl⟩, rfl, ?_⟩
          · rw [hFF, HPK.out]
          · intro _
            refine ⟨rfl, ?_, fun i hi => by have := huse i hi; simp at this; omega⟩
            rw [hFF]
            exact h4.kept kz (fun i hi he => by have := huse i hi; simp at this; omega)
end Go.Proofs.Ytlimhofdonkljaa
