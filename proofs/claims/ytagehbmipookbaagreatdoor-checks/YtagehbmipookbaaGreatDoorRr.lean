/- The reference: Read. The reference: Read where the form is right. -/
import Derived.Test.YtagehbmipookbaaGreatDoorRs
import Derived.Test.YtagehbmipookbaaGreatDoorFl
import Derived.Test.YtagehbmipookbaaGreatDoorEq
namespace Go.Proofs.YtagehbmipookbaaGreatDoor
open Go.RowKit Go.Maps
set_option linter.unusedVariables false
set_option maxRecDepth 100000

/-- what Read tells -/
def refPick (g : RG) (s : ByteArray) : Int × Int :=
  if 300 < s.size then (1, 0) else if 0 ≤ brokenOf s then (2, brokenOf s) else if 0 ≤ formOf s.size sc0 (scan s) then (3, formOf s.size sc0 (scan s)) else pick (finFlt g s)

structure GOf (g : RG) (s : ByteArray) : Prop where
  rs : g.rs = (scan s).map (·.2)
  ps : g.ps = (scan s).map (fun p => (p.1 : Int)) ++ [(s.size : Int)]
theorem GOf.gd {g : RG} {s : ByteArray} (h : GOf g s) : Gd g (scan s) s.size where
  rs := h.rs
  ps i hi := by
    rw [h.ps, List.getD, List.getElem?_append_left (by simpa using hi)]
    simp [List.getElem?_eq_getElem hi]
  pe := by
    rw [h.ps, List.getD, List.getElem?_append_right (by simp)]
    simp
  nn p hp := by rw [(scan_mem s _ _ p hp).2]; omega

/-- the way out of Read -/
theorem ref_ret {Q : Ending → World → Prop} {a : Act} {W : World} {v2 v3 : Value} {x y : Int} (h2 : a.tmps.getD 2 undef = v2) (h3 : a.tmps.getD 3 undef = v3) (h4 : a.tmps.getD 4 undef = .int .i64 x) (h5 : a.tmps.getD 5 undef = .int .i64 y) (hd : a.defers = [])
    (hQ : Q (.returned (.tuple #[v2, v3, .int .i64 x, .int .i64 y])) W) : bodyPost Tryz.prog Tryz.f6 Q Exit.ret a W := by
  have s2 : a.tmps[2]?.getD undef = v2 := by simpa using h2
  have s3 : a.tmps[3]?.getD undef = v3 := by simpa using h3
  have s4 : a.tmps[4]?.getD undef = .int .i64 x := by simpa using h4
  have s5 : a.tmps[5]?.getD undef = .int .i64 y := by simpa using h5
  exact bodyPost_ret (v := .tuple #[v2, v3, .int .i64 x, .int .i64 y]) (by simp [results, Tryz.results6, go_sem, s2, s3, s4, s5]) hd hQ

/-- of a text that is too long -/
theorem Read_long (s : ByteArray) (w : World) (hs : 300 < s.size) (hm : s.size ≤ maxLen) :
    Calls Tryz.prog 6 #[.string s] w fun e w' => e = .returned (.tuple #[.pointer none, .slice none 0 0, .int .i64 1, .int .i64 0]) ∧ Kept Nil w w' := by
  have hb : (300 : Int) < (s.size : Int) := by omega
  go_enter Tryz.func6, Tryz.ntmps6
  go_wp2_with fail
  exact ref_ret rfl rfl rfl rfl rfl ⟨rfl, Kept.refl _ _⟩

theorem GlAt.low {w : World} {lo b : Nat} {ao : Option Addr} {l : List (Nat × Int)} (h : GlAt w lo b ao l) : GlAt w 0 b ao l := ⟨fun hl => ⟨(h.isSome hl).1, Nat.zero_le _, (h.isSome hl).2.2⟩, h.cells⟩

def RdPost (w : World) (g : RG) (s : ByteArray) (e : Ending) (w' : World) : Prop :=
  ∃ v1 v2, e = .returned (.tuple #[v1, v2, .int .i64 (refPick g s).1, .int .i64 (refPick g s).2]) ∧ Kept Nil w w' ∧ ((refPick g s).1 ≠ 0 → v2 = .slice none 0 0) ∧ ((refPick g s).1 = 0 → ∃ nl lo b, w.heap.size ≤ lo ∧ w'.ownsRow lo 9 1 v2 nl.length (nl.map fun x => .string ⟨x.toArray⟩) ∧ NRel (pWhole g (st0 s)).1 nl ∧ v1 = .pointer (some ⟨b, 0, none⟩) ∧ NdAt w' (Fr lo w'.heap.size v2) b (pWhole g (st0 s)).2 (rWhole g (st0 s)))

/-- where runes are broken -/
theorem Read_rune (s : ByteArray) (w : World) (g : RG) (hs : s.size ≤ 300) (hb : 0 ≤ brokenOf s) : Calls Tryz.prog 6 #[.string s] w (RdPost w g s) := by
  have hsz : ¬ (300 : Int) < (s.size : Int) := by omega
  have hp : refPick g s = (2, brokenOf s) := by unfold refPick; rw [if_neg (by omega), if_pos hb]
  go_enter Tryz.func6, Tryz.ntmps6
  go_wp2_with fail
  refine (broken_any s w (by omega)).mono ?_
  rintro e w1 ⟨rfl, hk1⟩
  go_wp2_with fail
  exact ref_ret (v2 := .pointer none) (v3 := .slice none 0 0) (x := 2) (y := brokenOf s) rfl rfl rfl rfl rfl ⟨.pointer none, .slice none 0 0, by rw [hp], hk1, fun _ => rfl, fun h => by rw [hp] at h; simp at h⟩

/-- where the form is wrong -/
theorem Read_form (s : ByteArray) (w : World) (g : RG) (hs : s.size ≤ 300) (hb : ¬ 0 ≤ brokenOf s) (hf : 0 ≤ formOf s.size sc0 (scan s)) : Calls Tryz.prog 6 #[.string s] w (RdPost w g s) := by
  have hsz : ¬ (300 : Int) < (s.size : Int) := by omega
  have hlen : (scan s).length ≤ s.size := by have := scan_len s (s.size + 1) 0; unfold scan; omega
  have hp : refPick g s = (3, formOf s.size sc0 (scan s)) := by unfold refPick; rw [if_neg (by omega), if_neg hb, if_pos hf]
  generalize hff : formOf s.size sc0 (scan s) = f at *
  go_enter Tryz.func6, Tryz.ntmps6
  go_wp2_with fail
  refine (broken_any s w (by omega)).mono ?_
  rintro e w1 ⟨rfl, hk1⟩
  go_wp2_with fail
  refine (form_any s w1 hs hlen).mono ?_
  rintro e w2 ⟨rfl, hk2⟩
  rw [hff]
  go_wp2_with fail
  exact ref_ret (v2 := .pointer none) (v3 := .slice none 0 0) (x := 3) (y := f) rfl rfl rfl rfl rfl ⟨.pointer none, .slice none 0 0, by rw [hp], hk1.trans hk2, fun _ => rfl, fun h => by rw [hp] at h; simp at h⟩

/-- the tree's beginning -/
theorem tree_start {w : World} {lo b cap : Nat} {ao : Option Addr} {g : RG} {s : ByteArray} (hs : s.size ≤ 300) (hG : GlAt w lo b ao (scan s)) (hg : GOf g s) (hflt : (st0 s).flt = flt0) :
    TrAt (w.alloc (.cells #[.slice ao (scan s).length cap, .int .i64 0, .int .i64 0, .slice none 0 0, .int .i64 (-1), .int .i64 (-1), .int .i64 (-1)] 50)) ⟨w.heap.size, b, ao, cap, scan s⟩ g (st0 s) 0 (.slice none 0 0) [] := by
  have hgd := hg.gd
  have hlen : (scan s).length ≤ s.size := by have := scan_len s (s.size + 1) 0; unfold scan; omega
  have hb := Blk.new w #[.slice ao (scan s).length cap, .int .i64 0, .int .i64 0, .slice none 0 0, .int .i64 (-1), .int .i64 (-1), .int .i64 (-1)] 50
  refine { blk := ?_, gl := (hG.kept ((Kept.refl Nil w).alloc _) (fun _ h => h)).low, ne := fun hl => ?_, bl := fun hl => (hG.isSome hl).2.2, rs := hgd.rs, ps := hgd.ps, len := by simp only; omega, next := Nat.zero_le _, names := World.ownsRow_nil _ _ _ _, nrel := ?_, groups := Nat.le_refl _, fold0 := ⟨Int.le_refl _, by simp [st0]⟩, pr := fun i => ?_, fok := ?_ }
  · rw [hflt]; exact hb
  · have := (hG.isSome hl).2.2; simp only; omega
  · exact ⟨rfl, fun x _ => rfl, fun p hp => by simp [st0] at hp, fun _ x i _ => by simp [st0]⟩
  · rw [hg.ps, List.getD]
    by_cases h : i < (scan s).length
    · rw [List.getElem?_append_left (by simpa using h)]
      have := (scan_mem s _ _ _ (List.getElem_mem h)).1
      simp [List.getElem?_eq_getElem h]
      omega
    · rw [List.getElem?_append_right (by simp; omega)]
      cases hd : i - ((scan s).map (fun p => (p.1 : Int))).length with
      | zero => simp; omega
      | succ m => simp
  · rw [hflt]; exact ⟨fun p h => by simp [flt0] at h, fun p h => by simp [flt0] at h, fun p h => by simp [flt0] at h⟩

theorem whole_right {g : RG} {s : ByteArray} (hg : GOf g s) (hf : ¬ 0 ≤ formOf s.size sc0 (scan s)) : (pWhole g (st0 s)).1.flt.form = none ∧ pWhole g (st0 s) = pAlt g (g.rs.length + 1) (st0 s) := by
  have h1 := form_alike hg.gd (st0 s) rfl (broken_rune s).2.2.1
  have h2 : formO s.size sc0 (scan s) = none := by
    cases h : formO s.size sc0 (scan s) with
    | none => rfl
    | some q =>
      have := formO_pos (by omega) _ _ q h
      rw [formOf_eq, h] at hf
      exact absurd this hf
  rw [h2] at h1
  refine ⟨h1, ?_⟩
  unfold pWhole at h1 ⊢
  split
  · rfl
  · rename_i he
    rw [if_neg he] at h1
    exact absurd h1 (refuse_form g _)

theorem pick_ref {g : RG} {s : ByteArray} (hs : s.size ≤ 300) (hb : ¬ 0 ≤ brokenOf s) (hf : ¬ 0 ≤ formOf s.size sc0 (scan s)) : refPick g s = pick (finFlt g s) := by
  unfold refPick; rw [if_neg (by omega), if_neg hb, if_neg hf]

set_option maxRecDepth 100000 in
set_option maxHeartbeats 4000000 in
theorem Read_tree (s : ByteArray) (w : World) (g : RG) (hg : GOf g s) (hs : s.size ≤ 300) (hb : ¬ 0 ≤ brokenOf s) (hf : ¬ 0 ≤ formOf s.size sc0 (scan s)) : Calls Tryz.prog 6 #[.string s] w (RdPost w g s) := by
  have hsz : ¬ (300 : Int) < (s.size : Int) := by omega
  have hlen : (scan s).length ≤ s.size := by have := scan_len s (s.size + 1) 0; unfold scan; omega
  have hp := pick_ref (g := g) hs hb hf
  obtain ⟨hform, hwhole⟩ := whole_right hg hf
  have hrune : (st0 s).flt.rune = none := by
    cases h : (st0 s).flt.rune with
    | none => rfl
    | some p => have := (broken_rune s).1 p h; omega
  have hflt := ((broken_rune s).2.1 hrune).2
  have htwo := pWhole_two (g := g) (st0 s)
  have hrune' : (pWhole g (st0 s)).1.flt.rune = none := htwo.1.trans hrune
  have hbig' : (pWhole g (st0 s)).1.flt.big = none := htwo.2.trans (broken_rune s).2.2.2
  have halt := alt_all g (g.rs.length + 1)
  have hffin : finFlt g s = if 1000 < (pWhole g (st0 s)).2.size then (pWhole g (st0 s)).1.flt.note 7 0 else (pWhole g (st0 s)).1.flt := rfl
  generalize hff : formOf s.size sc0 (scan s) = f at *
  generalize hX : pWhole g (st0 s) = X at *
  have HX : Hid (pAlt g (g.rs.length + 1) (st0 s) = X) := hwhole.symm
  clear hwhole htwo
  go_enter Tryz.func6, Tryz.ntmps6
  go_wp2_with fail
  refine (broken_any s w (by omega)).mono ?_
  rintro e w1 ⟨rfl, hk1⟩
  go_wp2_with fail
  refine (form_any s w1 hs hlen).mono ?_
  rintro e w2 ⟨rfl, hk2⟩
  rw [hff]
  go_wp2_with fail
  refine (runes_any s w2 (by omega)).mono ?_
  rintro e w3 ⟨v, rfl, hown, hk3⟩
  obtain ⟨b, ao, cap, hv, hG⟩ := GlAt.of hown
  rw [hv]
  clear hown hv
  have kw3 := (hk1.trans hk2).trans hk3
  go_wp2_with fail
  have h4 := tree_start (cap := cap) hs hG hg hflt
  have s3 := kw3.size
  refine (halt _ _ _ _ _ _ h4 (by show g.rs.length - 0 < _; omega) (by rw [HX.out]; exact hform)).mono ?_
  rw [HX.out]
  rintro e w5 ⟨b5, vn5, nl5, rfl, h5, q2, q3, q4⟩
  have kw5 : Kept Nil w w5 := ((kw3.alloc _).trans' q3 (fun i hi he => by
    rcases he with h | h
    · simp only at h; omega
    · simp [Value.ownBlock] at h))
  have c4 : w5.cell? ⟨w3.heap.size, 4, none⟩ = some (.int .i64 (orNeg X.1.flt.rep)) := h5.blk.cell 4
  have c5 : w5.cell? ⟨w3.heap.size, 5, none⟩ = some (.int .i64 (orNeg X.1.flt.cls)) := h5.blk.cell 5
  have c6 : w5.cell? ⟨w3.heap.size, 6, none⟩ = some (.int .i64 (orNeg X.1.flt.nam)) := h5.blk.cell 6
  have c3 : w5.cell? ⟨w3.heap.size, 3, none⟩ = some vn5 := h5.blk.cell 3
  have hsize := Size_ref q2 w5 (Kept.refl _ _)
  have hzr := q2.size_range
  cases hrep : X.1.flt.rep with
  | some p =>
    have hpos := h5.fok.1 p hrep
    rw [hrep, show orNeg (some p) = p from rfl] at c4
    have hpk : pick (finFlt g s) = (4, p) := by
      rw [hffin]
      split
      · simp [pick, Flt.note, Flt.get, hbig', Flt.put, hrune', hform, hrep]
      · simp [pick, hrune', hform, hrep]
    clear hffin h4 h5 q2 q3 hsize halt
    go_wp2_with fail
    go_quiet (fail)
    go_wp2_with fail
    exact ref_ret (v2 := .pointer none) (v3 := .slice none 0 0) (x := 4) (y := p) rfl rfl rfl rfl rfl ⟨.pointer none, .slice none 0 0, by rw [hp, hpk], kw5.drewN _, fun _ => rfl, fun h => by rw [hp, hpk] at h; simp at h⟩
  | none =>
    rw [hrep, show orNeg none = -1 from rfl] at c4
    cases hcls : X.1.flt.cls with
    | some p =>
      have hpos := h5.fok.2.1 p hcls
      rw [hcls, show orNeg (some p) = p from rfl] at c5
      have hpk : pick (finFlt g s) = (5, p) := by
        rw [hffin]
        split
        · simp [pick, Flt.note, Flt.get, hbig', Flt.put, hrune', hform, hrep, hcls]
        · simp [pick, hrune', hform, hrep, hcls]
      clear hffin h4 h5 q2 q3 hsize halt
      go_wp2_with fail
      go_quiet (fail)
      go_wp2_with fail
      exact ref_ret (v2 := .pointer none) (v3 := .slice none 0 0) (x := 5) (y := p) rfl rfl rfl rfl rfl ⟨.pointer none, .slice none 0 0, by rw [hp, hpk], kw5.drewN _, fun _ => rfl, fun h => by rw [hp, hpk] at h; simp at h⟩
    | none =>
      rw [hcls, show orNeg none = -1 from rfl] at c5
      cases hnam : X.1.flt.nam with
      | some p =>
        have hpos := h5.fok.2.2 p hnam
        rw [hnam, show orNeg (some p) = p from rfl] at c6
        have hpk : pick (finFlt g s) = (6, p) := by
          rw [hffin]
          split
          · simp [pick, Flt.note, Flt.get, hbig', Flt.put, hrune', hform, hrep, hcls, hnam]
          · simp [pick, hrune', hform, hrep, hcls, hnam]
        clear hffin h4 h5 q2 q3 hsize halt
        go_wp2_with fail
        go_quiet (fail)
        go_wp2_with fail
        exact ref_ret (v2 := .pointer none) (v3 := .slice none 0 0) (x := 6) (y := p) rfl rfl rfl rfl rfl ⟨.pointer none, .slice none 0 0, by rw [hp, hpk], kw5.drewN _, fun _ => rfl, fun h => by rw [hp, hpk] at h; simp at h⟩
      | none =>
        rw [hnam, show orNeg none = -1 from rfl] at c6
        by_cases hbg : 1000 < X.2.size
        · have hpk : pick (finFlt g s) = (7, 0) := by
            rw [hffin, if_pos hbg]
            simp [pick, Flt.note, Flt.get, hbig', Flt.put, hrune', hform, hrep, hcls, hnam]
          clear hffin h4 h5 q2 q3 halt
          go_wp2_with fail
          refine hsize.mono ?_
          rintro e w6 ⟨rfl, hk6⟩
          go_wp2_with fail
          exact ref_ret (v2 := .pointer none) (v3 := .slice none 0 0) (x := 7) (y := 0) rfl rfl rfl rfl rfl ⟨.pointer none, .slice none 0 0, by rw [hp, hpk], kw5.trans hk6, fun _ => rfl, fun h => by rw [hp, hpk] at h; simp at h⟩
        · have hpk : pick (finFlt g s) = (0, 0) := by
            rw [hffin, if_neg hbg]
            simp [pick, hbig', hrune', hform, hrep, hcls, hnam]
          have hbg' : ¬ 1000 < X.2.size := hbg
          have hrow := h5.names
          have hrel := h5.nrel
          simp only at hrow
          go_wp2_with fail
          refine hsize.mono ?_
          rintro e w6 ⟨rfl, hk6⟩
          have c63 : w6.cell? ⟨w3.heap.size, 3, none⟩ = some vn5 := (h5.blk.kept hk6 (fun h => h)).cell 3
          have hrow6 := ownsRow_kept hrow hk6 (fun _ _ h => h)
          have q6 := (q2.kept hk6 (fun _ _ h => h)).widen (U' := Fr (w3.heap.size + 1) w6.heap.size vn5) (fun i hi hlt => ⟨by have := hi.1; rw [size_alloc1] at this; exact this, hlt, hi.2.2⟩)
          have Q6 := fun m => q6.kept ((Kept.refl Nil w6).drewN m) (fun _ _ h => h)
          clear q6
          clear hffin h4 h5 q2 q3 halt hsize
          go_wp2_with fail
          go_quiet (fail)
          go_wp2_with fail
          refine ref_ret (v2 := .pointer (some ⟨b5, 0, none⟩)) (v3 := vn5) (x := 0) (y := 0) rfl rfl rfl rfl rfl ⟨.pointer (some ⟨b5, 0, none⟩), vn5, by rw [hp, hpk], (kw5.trans hk6).drewN _, fun h => absurd (by rw [hp, hpk]) h, fun _ => ⟨nl5, w3.heap.size + 1, b5, by omega, ownsRow_kept hrow6 ((Kept.refl Nil _).drewN _) (fun _ _ h => h), ?_, rfl, ?_⟩⟩
          · rw [hX]; exact hrel
          · rw [hX]; exact Q6 _

theorem Read_short (s : ByteArray) (w : World) (g : RG) (hg : GOf g s) (hs : s.size ≤ 300) : Calls Tryz.prog 6 #[.string s] w (RdPost w g s) := by
  by_cases hb : 0 ≤ brokenOf s
  · exact Read_rune s w g hs hb
  · by_cases hf : 0 ≤ formOf s.size sc0 (scan s)
    · exact Read_form s w g hs hb hf
    · exact Read_tree s w g hg hs hb hf
end Go.Proofs.YtagehbmipookbaaGreatDoor
