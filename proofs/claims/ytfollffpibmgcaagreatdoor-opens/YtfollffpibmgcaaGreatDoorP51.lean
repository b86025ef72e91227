/- The reference: Read. The program's first fault is the document's; a row's end where nothing has turned. Open comes back, and answers as the document says; the law's own small calls. -/
import Derived.Test.YtfollffpibmgcaaGreatDoorP49
import Derived.Test.YtfollffpibmgcaaGreatDoorP50
import Derived.ProofKit
import Derived.Test.YtfollffpibmgcaaGreatDoorP31
set_option linter.unusedVariables false
set_option maxRecDepth 100000
namespace Go.Proofs.YtfollffpibmgcaaGreatDoor
open Go.RowKit Go.Maps
def refPick (g : RG) (s : ByteArray) : Int × Int :=
 if 300 < s.size then (1, 0) else if 0 ≤ brokenOf s then (2, brokenOf s) else if 0 ≤ formOf s.size sc0 (scan s) then (3, formOf s.size sc0 (scan s)) else pick (finFlt g s)
structure GOf (g : RG) (s : ByteArray) : Prop where
 rs : g.rs = (scan s).map (·.2)
 ps : g.ps = (scan s).map (fun p => (p.1 : Int)) ++ [(s.size : Int)]
theorem GOf.gd {g : RG} {s : ByteArray} (h : GOf g s) : Gd g (scan s) s.size where
 rs := h.rs
 ps i hi := by
  rw [h.ps, List.getD, List.getElem?_append_left (by simpa using hi)]
  simp [List.getElem?_eq_getElem hi]
 pe := by
  rw [h.ps, List.getD, List.getElem?_append_right (by simp)]
  simp
 nn p hp := by rw [(scan_mem s _ _ p hp).2]; omega
theorem ref_ret {Q : Ending → World → Prop} {a : Act} {W : World} {v2 v3 : Value} {x y : Int} (h2 : a.tmps.getD 2 undef = v2) (h3 : a.tmps.getD 3 undef = v3) (h4 : a.tmps.getD 4 undef = .int .i64 x) (h5 : a.tmps.getD 5 undef = .int .i64 y) (hd : a.defers = [])
  (hQ : Q (.returned (.tuple #[v2, v3, .int .i64 x, .int .i64 y])) W) : bodyPost Tryz.prog Tryz.f7 Q Exit.ret a W := by
 have s2 : a.tmps[2]?.getD undef = v2 := by simpa using h2
 have s3 : a.tmps[3]?.getD undef = v3 := by simpa using h3
 have s4 : a.tmps[4]?.getD undef = .int .i64 x := by simpa using h4
 have s5 : a.tmps[5]?.getD undef = .int .i64 y := by simpa using h5
 exact bodyPost_ret (v := .tuple #[v2, v3, .int .i64 x, .int .i64 y]) (by simp [results, Tryz.results7, go_sem, s2, s3, s4, s5]) hd hQ
theorem Read_long (s : ByteArray) (w : World) (hs : 300 < s.size) (hm : s.size ≤ maxLen) :
  Calls Tryz.prog 7 #[.string s] w fun e w' => e = .returned (.tuple #[.pointer none, .slice none 0 0, .int .i64 1, .int .i64 0]) ∧ Kept Nil w w' := by
 have hb : (300 : Int) < (s.size : Int) := by omega
 go_enter Tryz.func7, Tryz.ntmps7
 go_wp2_with fail
 exact ref_ret rfl rfl rfl rfl rfl ⟨rfl, Kept.refl _ _⟩
theorem GlAt.low {w : World} {lo b : Nat} {ao : Option Addr} {l : List (Nat × Int)} (h : GlAt w lo b ao l) : GlAt w 0 b ao l := ⟨fun hl => ⟨(h.isSome hl).1, Nat.zero_le _, (h.isSome hl).2.2⟩, h.cells⟩
def RdPost (w : World) (g : RG) (s : ByteArray) (e : Ending) (w' : World) : Prop :=
 ∃ v1 v2, e = .returned (.tuple #[v1, v2, .int .i64 (refPick g s).1, .int .i64 (refPick g s).2]) ∧ Kept Nil w w' ∧ ((refPick g s).1 ≠ 0 → v2 = .slice none 0 0) ∧ ((refPick g s).1 = 0 → ∃ nl lo b, w.heap.size ≤ lo ∧ w'.ownsRow lo 9 1 v2 nl.length (nl.map fun x => .string ⟨x.toArray⟩) ∧ NRel (pWhole g (st0 s)).1 nl ∧ v1 = .pointer (some ⟨b, 0, none⟩) ∧ NdAt w' (Fr lo w'.heap.size v2) b (pWhole g (st0 s)).2 (rWhole g (st0 s)))
theorem Read_rune (s : ByteArray) (w : World) (g : RG) (hs : s.size ≤ 300) (hb : 0 ≤ brokenOf s) : Calls Tryz.prog 7 #[.string s] w (RdPost w g s) := by
 have hsz : ¬ (300 : Int) < (s.size : Int) := by omega
 have hp : refPick g s = (2, brokenOf s) := by unfold refPick; rw [if_neg (by omega), if_pos hb]
 go_enter Tryz.func7, Tryz.ntmps7
 go_wp2_with fail
 refine (broken_any s w (by omega)).mono ?_
 rintro e w1 ⟨rfl, hk1⟩
 go_wp2_with fail
 exact ref_ret (v2 := .pointer none) (v3 := .slice none 0 0) (x := 2) (y := brokenOf s) rfl rfl rfl rfl rfl ⟨.pointer none, .slice none 0 0, by rw [hp], hk1, fun _ => rfl, fun h => by rw [hp] at h; simp at h⟩
theorem Read_form (s : ByteArray) (w : World) (g : RG) (hs : s.size ≤ 300) (hb : ¬ 0 ≤ brokenOf s) (hf : 0 ≤ formOf s.size sc0 (scan s)) : Calls Tryz.prog 7 #[.string s] w (RdPost w g s) := by
 have hsz : ¬ (300 : Int) < (s.size : Int) := by omega
 have hlen : (scan s).length ≤ s.size := by have := scan_len s (s.size + 1) 0; unfold scan; omega
 have hp : refPick g s = (3, formOf s.size sc0 (scan s)) := by unfold refPick; rw [if_neg (by omega), if_neg hb, if_pos hf]
 generalize hff : formOf s.size sc0 (scan s) = f at *
 go_enter Tryz.func7, Tryz.ntmps7
 go_wp2_with fail
 refine (broken_any s w (by omega)).mono ?_
 rintro e w1 ⟨rfl, hk1⟩
 go_wp2_with fail
 refine (form_any s w1 hs hlen).mono ?_
 rintro e w2 ⟨rfl, hk2⟩
 rw [hff]
 go_wp2_with fail
 exact ref_ret (v2 := .pointer none) (v3 := .slice none 0 0) (x := 3) (y := f) rfl rfl rfl rfl rfl ⟨.pointer none, .slice none 0 0, by rw [hp], hk1.trans hk2, fun _ => rfl, fun h => by rw [hp] at h; simp at h⟩
theorem tree_start {w : World} {lo b cap : Nat} {ao : Option Addr} {g : RG} {s : ByteArray} (hs : s.size ≤ 300) (hG : GlAt w lo b ao (scan s)) (hg : GOf g s) (hflt : (st0 s).flt = flt0) :
  TrAt (w.alloc (.cells #[.slice ao (scan s).length cap, .int .i64 0, .int .i64 0, .slice none 0 0, .int .i64 (-1), .int .i64 (-1), .int .i64 (-1)] 72)) ⟨w.heap.size, b, ao, cap, scan s⟩ g (st0 s) 0 (.slice none 0 0) [] := by
 have hgd := hg.gd
 have hlen : (scan s).length ≤ s.size := by have := scan_len s (s.size + 1) 0; unfold scan; omega
 have hb := Blk.new w #[.slice ao (scan s).length cap, .int .i64 0, .int .i64 0, .slice none 0 0, .int .i64 (-1), .int .i64 (-1), .int .i64 (-1)] 72
 refine { blk := ?_, gl := (hG.kept ((Kept.refl Nil w).alloc _) (fun _ h => h)).low, ne := fun hl => ?_, bl := fun hl => (hG.isSome hl).2.2, rs := hgd.rs, ps := hgd.ps, len := by simp only; omega, next := Nat.zero_le _, names := World.ownsRow_nil _ _ _ _, nrel := ?_, groups := Nat.le_refl _, fold0 := ⟨Int.le_refl _, by simp [st0]⟩, pr := fun i => ?_, fok := ?_ }
 ·rw [hflt]; exact hb
 ·have := (hG.isSome hl).2.2; simp only; omega
 ·exact ⟨rfl, fun x _ => rfl, fun p hp => by simp [st0] at hp, fun _ x i _ => by simp [st0]⟩
 ·rw [hg.ps, List.getD]
  by_cases h : i < (scan s).length
  ·rw [List.getElem?_append_left (by simpa using h)]
   have := (scan_mem s _ _ _ (List.getElem_mem h)).1
   simp [List.getElem?_eq_getElem h]
   omega
  ·rw [List.getElem?_append_right (by simp; omega)]
   cases hd : i - ((scan s).map (fun p => (p.1 : Int))).length with
   | zero => simp; omega
   | succ m => simp
 ·rw [hflt]; exact ⟨fun p h => by simp [flt0] at h, fun p h => by simp [flt0] at h, fun p h => by simp [flt0] at h⟩
theorem whole_right {g : RG} {s : ByteArray} (hg : GOf g s) (hf : ¬ 0 ≤ formOf s.size sc0 (scan s)) : (pWhole g (st0 s)).1.flt.form = none ∧ pWhole g (st0 s) = pAlt g (g.rs.length + 1) (st0 s) := by
 have h1 := form_alike hg.gd (st0 s) rfl (broken_rune s).2.2.1
 have h2 : formO s.size sc0 (scan s) = none := by
  cases h : formO s.size sc0 (scan s) with
  | none => rfl
  | some q =>
   have := formO_pos (by omega) _ _ q h
   rw [formOf_eq, h] at hf
   exact absurd this hf
 rw [h2] at h1
 refine ⟨h1, ?_⟩
 unfold pWhole at h1 ⊢
 split
 ·rfl
 ·rename_i he
  rw [if_neg he] at h1
  exact absurd h1 (refuse_form g _)
theorem pick_ref {g : RG} {s : ByteArray} (hs : s.size ≤ 300) (hb : ¬ 0 ≤ brokenOf s) (hf : ¬ 0 ≤ formOf s.size sc0 (scan s)) : refPick g s = pick (finFlt g s) := by
 unfold refPick; rw [if_neg (by omega), if_neg hb, if_neg hf]
set_option maxRecDepth 100000 in
set_option maxHeartbeats 4000000 in
theorem Read_tree (s : ByteArray) (w : World) (g : RG) (hg : GOf g s) (hs : s.size ≤ 300) (hb : ¬ 0 ≤ brokenOf s) (hf : ¬ 0 ≤ formOf s.size sc0 (scan s)) : Calls Tryz.prog 7 #[.string s] w (RdPost w g s) := by
 have hsz : ¬ (300 : Int) < (s.size : Int) := by omega
 have hlen : (scan s).length ≤ s.size := by have := scan_len s (s.size + 1) 0; unfold scan; omega
 have hp := pick_ref (g := g) hs hb hf
 obtain ⟨hform, hwhole⟩ := whole_right hg hf
 have hrune : (st0 s).flt.rune = none := by
  cases h : (st0 s).flt.rune with
  | none => rfl
  | some p => have := (broken_rune s).1 p h; omega
 have hflt := ((broken_rune s).2.1 hrune).2
 have htwo := pWhole_two (g := g) (st0 s)
 have hrune' : (pWhole g (st0 s)).1.flt.rune = none := htwo.1.trans hrune
 have hbig' : (pWhole g (st0 s)).1.flt.big = none := htwo.2.trans (broken_rune s).2.2.2
 have halt := alt_all g (g.rs.length + 1)
 have hffin : finFlt g s = if 1000 < (pWhole g (st0 s)).2.size then (pWhole g (st0 s)).1.flt.note 7 0 else (pWhole g (st0 s)).1.flt := rfl
 generalize hff : formOf s.size sc0 (scan s) = f at *
 generalize hX : pWhole g (st0 s) = X at *
 have HX : Hid (pAlt g (g.rs.length + 1) (st0 s) = X) := hwhole.symm
 clear hwhole htwo
 go_enter Tryz.func7, Tryz.ntmps7
 go_wp2_with fail
 refine (broken_any s w (by omega)).mono ?_
 rintro e w1 ⟨rfl, hk1⟩
 go_wp2_with fail
 refine (form_any s w1 hs hlen).mono ?_
 rintro e w2 ⟨rfl, hk2⟩
 rw [hff]
 go_wp2_with fail
 refine (runes_any s w2 (by omega)).mono ?_
 rintro e w3 ⟨v, rfl, hown, hk3⟩
 obtain ⟨b, ao, cap, hv, hG⟩ := GlAt.of hown
 rw [hv]
 clear hown hv
 have kw3 := (hk1.trans hk2).trans hk3
 go_wp2_with fail
 have h4 := tree_start (cap := cap) hs hG hg hflt
 have s3 := kw3.size
 refine (halt _ _ _ _ _ _ h4 (by show g.rs.length - 0 < _; omega) (by rw [HX.out]; exact hform)).mono ?_
 rw [HX.out]
 rintro e w5 ⟨b5, vn5, nl5, rfl, h5, q2, q3, q4⟩
 have kw5 : Kept Nil w w5 := ((kw3.alloc _).trans' q3 (fun i hi he => by
  rcases he with h | h
  ·simp only at h; omega
  ·simp [Value.ownBlock] at h))
 have c4 : w5.cell? ⟨w3.heap.size, 4, none⟩ = some (.int .i64 (orNeg X.1.flt.rep)) := h5.blk.cell 4
 have c5 : w5.cell? ⟨w3.heap.size, 5, none⟩ = some (.int .i64 (orNeg X.1.flt.cls)) := h5.blk.cell 5
 have c6 : w5.cell? ⟨w3.heap.size, 6, none⟩ = some (.int .i64 (orNeg X.1.flt.nam)) := h5.blk.cell 6
 have c3 : w5.cell? ⟨w3.heap.size, 3, none⟩ = some vn5 := h5.blk.cell 3
 have hsize := Size_ref q2 w5 (Kept.refl _ _)
 have hzr := q2.size_range
 cases hrep : X.1.flt.rep with
 | some p =>
  have hpos := h5.fok.1 p hrep
  rw [hrep, show orNeg (some p) = p from rfl] at c4
  have hpk : pick (finFlt g s) = (4, p) := by
   rw [hffin]
   split
   ·simp [pick, Flt.note, Flt.get, hbig', Flt.put, hrune', hform, hrep]
   ·simp [pick, hrune', hform, hrep]
  clear hffin h4 h5 q2 q3 hsize halt
  go_wp2_with fail
  go_quiet (fail)
  go_wp2_with fail
  exact ref_ret (v2 := .pointer none) (v3 := .slice none 0 0) (x := 4) (y := p) rfl rfl rfl rfl rfl ⟨.pointer none, .slice none 0 0, by rw [hp, hpk], kw5.drewN _, fun _ => rfl, fun h => by rw [hp, hpk] at h; simp at h⟩
 | none =>
  rw [hrep, show orNeg none = -1 from rfl] at c4
  cases hcls : X.1.flt.cls with
  | some p =>
   have hpos := h5.fok.2.1 p hcls
   rw [hcls, show orNeg (some p) = p from rfl] at c5
   have hpk : pick (finFlt g s) = (5, p) := by
    rw [hffin]
    split
    ·simp [pick, Flt.note, Flt.get, hbig', Flt.put, hrune', hform, hrep, hcls]
    ·simp [pick, hrune', hform, hrep, hcls]
   clear hffin h4 h5 q2 q3 hsize halt
   go_wp2_with fail
   go_quiet (fail)
   go_wp2_with fail
   exact ref_ret (v2 := .pointer none) (v3 := .slice none 0 0) (x := 5) (y := p) rfl rfl rfl rfl rfl ⟨.pointer none, .slice none 0 0, by rw [hp, hpk], kw5.drewN _, fun _ => rfl, fun h => by rw [hp, hpk] at h; simp at h⟩
  | none =>
   rw [hcls, show orNeg none = -1 from rfl] at c5
   cases hnam : X.1.flt.nam with
   | some p =>
    have hpos := h5.fok.2.2 p hnam
    rw [hnam, show orNeg (some p) = p from rfl] at c6
    have hpk : pick (finFlt g s) = (6, p) := by
     rw [hffin]
     split
     ·simp [pick, Flt.note, Flt.get, hbig', Flt.put, hrune', hform, hrep, hcls, hnam]
     ·simp [pick, hrune', hform, hrep, hcls, hnam]
    clear hffin h4 h5 q2 q3 hsize halt
    go_wp2_with fail
    go_quiet (fail)
    go_wp2_with fail
    exact ref_ret (v2 := .pointer none) (v3 := .slice none 0 0) (x := 6) (y := p) rfl rfl rfl rfl rfl ⟨.pointer none, .slice none 0 0, by rw [hp, hpk], kw5.drewN _, fun _ => rfl, fun h => by rw [hp, hpk] at h; simp at h⟩
   | none =>
    rw [hnam, show orNeg none = -1 from rfl] at c6
    by_cases hbg : 1000 < X.2.size
    ·have hpk : pick (finFlt g s) = (7, 0) := by
      rw [hffin, if_pos hbg]
      simp [pick, Flt.note, Flt.get, hbig', Flt.put, hrune', hform, hrep, hcls, hnam]
     clear hffin h4 h5 q2 q3 halt
     go_wp2_with fail
     refine hsize.mono ?_
     rintro e w6 ⟨rfl, hk6⟩
     go_wp2_with fail
     exact ref_ret (v2 := .pointer none) (v3 := .slice none 0 0) (x := 7) (y := 0) rfl rfl rfl rfl rfl ⟨.pointer none, .slice none 0 0, by rw [hp, hpk], kw5.trans hk6, fun _ => rfl, fun h => by rw [hp, hpk] at h; simp at h⟩
    ·have hpk : pick (finFlt g s) = (0, 0) := by
      rw [hffin, if_neg hbg]
      simp [pick, hbig', hrune', hform, hrep, hcls, hnam]
     have hbg' : ¬ 1000 < X.2.size := hbg
     have hrow := h5.names
     have hrel := h5.nrel
     simp only at hrow
     go_wp2_with fail
     refine hsize.mono ?_
     rintro e w6 ⟨rfl, hk6⟩
     have c63 : w6.cell? ⟨w3.heap.size, 3, none⟩ = some vn5 := (h5.blk.kept hk6 (fun h => h)).cell 3
     have hrow6 := ownsRow_kept hrow hk6 (fun _ _ h => h)
     have q6 := (q2.kept hk6 (fun _ _ h => h)).widen (U' := Fr (w3.heap.size + 1) w6.heap.size vn5) (fun i hi hlt => ⟨by have := hi.1; rw [size_alloc1] at this; exact this, hlt, hi.2.2⟩)
     have Q6 := fun m => q6.kept ((Kept.refl Nil w6).drewN m) (fun _ _ h => h)
     clear q6
     clear hffin h4 h5 q2 q3 halt hsize
     go_wp2_with fail
     go_quiet (fail)
     go_wp2_with fail
     refine ref_ret (v2 := .pointer (some ⟨b5, 0, none⟩)) (v3 := vn5) (x := 0) (y := 0) rfl rfl rfl rfl rfl ⟨.pointer (some ⟨b5, 0, none⟩), vn5, by rw [hp, hpk], (kw5.trans hk6).drewN _, fun h => absurd (by rw [hp, hpk]) h, fun _ => ⟨nl5, w3.heap.size + 1, b5, by omega, ownsRow_kept hrow6 ((Kept.refl Nil _).drewN _) (fun _ _ h => h), ?_, rfl, ?_⟩⟩
     ·rw [hX]; exact hrel
     ·rw [hX]; exact Q6 _
theorem Read_short (s : ByteArray) (w : World) (g : RG) (hg : GOf g s) (hs : s.size ≤ 300) : Calls Tryz.prog 7 #[.string s] w (RdPost w g s) := by
 by_cases hb : 0 ≤ brokenOf s
 ·exact Read_rune s w g hs hb
 ·by_cases hf : 0 ≤ formOf s.size sc0 (scan s)
  ·exact Read_form s w g hs hb hf
  ·exact Read_tree s w g hg hs hb hf
set_option maxRecDepth 100000
theorem pick_alike {g : RG} {s : ByteArray} (hg : GOf g s) (hs : s.size ≤ 300) : pick (finFlt g s) = refPick g s := by
 obtain ⟨r1, r2, r3, r4⟩ := broken_rune s
 have htwo := pWhole_two (g := g) (st0 s)
 have hform := form_alike hg.gd (st0 s) rfl r3
 have hfin : (finFlt g s).rune = (st0 s).flt.rune ∧ (finFlt g s).form = formO s.size sc0 (scan s) := by
  unfold finFlt
  split
  ·refine ⟨?_, ?_⟩
   ·rw [← htwo.1]
    unfold Flt.note
    split
    ·rfl
    ·rfl
   ·rw [← hform]
    unfold Flt.note
    split
    ·rfl
    ·rfl
  ·exact ⟨htwo.1, hform⟩
 unfold refPick
 rw [if_neg (by omega)]
 cases hr : (st0 s).flt.rune with
 | some p =>
  obtain ⟨e, hp⟩ := r1 p hr
  rw [if_pos (by omega), e]
  rw [hr] at hfin
  unfold pick
  rw [hfin.1]
 | none =>
  have e := (r2 hr).1
  rw [if_neg (by omega)]
  rw [hr] at hfin
  cases hf : formO s.size sc0 (scan s) with
  | some q =>
   have hq := formO_pos (by omega) _ _ q hf
   rw [formOf_eq, hf, if_pos (by exact hq)]
   unfold pick
   rw [hfin.1, hfin.2, hf]
   rfl
  | none =>
   rw [formOf_eq, hf, if_neg (by decide)]
theorem post_nil {H : Type} {enc : TypeId × Value → H} {P : Program} {f : Func} {s : ChangeSpec} {apart fresh handsOn again : Bool} {W W' : World} {args : Array Value} {v : Value} {ds gs : List (DataW H)}
  (hW : DataW.Whole enc P f.params.toList s.vars apart W args.toList ds gs [])
  (hres : ∀ (b : Nat) (sp : Nat → Bool) (hd : Bool), DataW.TrodAll enc P W' b sp hd f.resultTypes.toList (v.resultList f.resultTypes.size) (s.fn H (ds ++ gs)).results [])
  (hargs : ∀ sp : Nat → Bool, DataW.TrodAll enc P W' 0 sp true f.params.toList args.toList (s.fn H (ds ++ gs)).args [])
  (hvars : ∀ sp : Nat → Bool, DataW.TrodVars enc P W' sp s.vars (s.fn H (ds ++ gs)).vars [])
  (hk : Kept Nil W W')
  (hok : ∀ (j : Nat) (t : TypeId) (r : Value), f.resultTypes[j]? = some t → (v.resultList f.resultTypes.size)[j]? = some r → Value.okWide P W' .any 0 t r) :
  s.post enc P f apart fresh handsOn again W args v W' := by
 refine ⟨ds, gs, [], [], [], [], hW, hres _ _ _, hargs _, hvars _, (hk.below (Nat.le_refl _) (fun _ _ h => h)).frame _, fun _ => ?_⟩
 refine ⟨hok, _, _, [], ⟨[], [], Go.ChangeShapes.trodAll_append (hargs _) (hres _ _ _), hvars _, rfl, fun b off hp => ?_, fun _ => ?_⟩, fun p hp _ => ?_⟩
 ·simp at hp
 ·exact List.nodup_nil
 ·simp at hp
def okO (o1 o2 o3 : Int) : Bool := decide (0 ≤ o1) && decide (o1 ≤ 2) && decide (2 ≤ o2) && decide (o2 ≤ 1000) && decide (0 ≤ o3) && decide (o3 ≤ 1000000)
set_option maxHeartbeats 1000000 in
theorem mayBe_any (w : World) (o1 o2 o3 : Int) : Calls Tryz.prog 15 #[.agg #[.int .i64 o1, .int .i64 o2, .int .i64 o3]] w fun e w' => e = .returned (.bool (okO o1 o2 o3)) ∧ Kept Nil w w' := by
 by_cases h1 : (0 : Int) ≤ o1
 ·by_cases h2 : o1 ≤ 2
  ·by_cases h3 : (2 : Int) ≤ o2
   ·by_cases h4 : o2 ≤ 1000
    ·by_cases h5 : (0 : Int) ≤ o3
     ·by_cases h6 : o3 ≤ 1000000
      ·go_enter Tryz.func15, Tryz.ntmps15
       go_wp2_with fail
       go_ret
       exact ⟨by simp [okO, h1, h2, h3, h4, h5, h6], (Kept.refl Nil w).alloc _⟩
      ·have h6' : decide (o3 ≤ 1000000) = false := decide_eq_false h6
       go_enter Tryz.func15, Tryz.ntmps15
       go_wp2_with fail
       go_ret
       exact ⟨by simp [okO, h1, h2, h3, h4, h5] <;> omega, (Kept.refl Nil w).alloc _⟩
     ·have h5' : decide ((0 : Int) ≤ o3) = false := decide_eq_false h5
      go_enter Tryz.func15, Tryz.ntmps15
      go_wp2_with fail
      go_ret
      exact ⟨by simp [okO, h1, h2, h3, h4] <;> omega, (Kept.refl Nil w).alloc _⟩
    ·have h4' : decide (o2 ≤ 1000) = false := decide_eq_false h4
     go_enter Tryz.func15, Tryz.ntmps15
     go_wp2_with fail
     go_ret
     exact ⟨by simp [okO, h1, h2, h3] <;> omega, (Kept.refl Nil w).alloc _⟩
   ·have h3' : decide ((2 : Int) ≤ o2) = false := decide_eq_false h3
    go_enter Tryz.func15, Tryz.ntmps15
    go_wp2_with fail
    go_ret
    exact ⟨by simp [okO, h1, h2] <;> omega, (Kept.refl Nil w).alloc _⟩
  ·have h2' : decide (o1 ≤ 2) = false := decide_eq_false h2
   go_enter Tryz.func15, Tryz.ntmps15
   go_wp2_with fail
   go_ret
   exact ⟨by simp [okO, h1] <;> omega, (Kept.refl Nil w).alloc _⟩
 ·have h1' : decide ((0 : Int) ≤ o1) = false := decide_eq_false h1
  go_enter Tryz.func15, Tryz.ntmps15
  go_wp2_with fail
  go_ret
  exact ⟨by simp [okO] <;> omega, (Kept.refl Nil w).alloc _⟩
set_option maxHeartbeats 1000000 in
theorem fits_any (w : World) (o1 o2 o3 : Int) : Calls Tryz.prog 8 #[.agg #[.int .i64 o1, .int .i64 o2, .int .i64 o3]] w fun e w' => e = .returned (.bool (okO o1 o2 o3)) ∧ Kept Nil w w' := by
 by_cases h1 : (0 : Int) ≤ o1
 ·by_cases h2 : o1 ≤ 2
  ·by_cases h3 : (2 : Int) ≤ o2
   ·by_cases h4 : o2 ≤ 1000
    ·by_cases h5 : (0 : Int) ≤ o3
     ·by_cases h6 : o3 ≤ 1000000
      ·go_enter Tryz.func8, Tryz.ntmps8
       go_wp2_with fail
       go_ret
       exact ⟨by simp [okO, h1, h2, h3, h4, h5, h6], (Kept.refl Nil w).alloc _⟩
      ·have h6' : decide (o3 ≤ 1000000) = false := decide_eq_false h6
       go_enter Tryz.func8, Tryz.ntmps8
       go_wp2_with fail
       go_ret
       exact ⟨by simp [okO, h1, h2, h3, h4, h5] <;> omega, (Kept.refl Nil w).alloc _⟩
     ·have h5' : decide ((0 : Int) ≤ o3) = false := decide_eq_false h5
      go_enter Tryz.func8, Tryz.ntmps8
      go_wp2_with fail
      go_ret
      exact ⟨by simp [okO, h1, h2, h3, h4] <;> omega, (Kept.refl Nil w).alloc _⟩
    ·have h4' : decide (o2 ≤ 1000) = false := decide_eq_false h4
     go_enter Tryz.func8, Tryz.ntmps8
     go_wp2_with fail
     go_ret
     exact ⟨by simp [okO, h1, h2, h3] <;> omega, (Kept.refl Nil w).alloc _⟩
   ·have h3' : decide ((2 : Int) ≤ o2) = false := decide_eq_false h3
    go_enter Tryz.func8, Tryz.ntmps8
    go_wp2_with fail
    go_ret
    exact ⟨by simp [okO, h1, h2] <;> omega, (Kept.refl Nil w).alloc _⟩
  ·have h2' : decide (o1 ≤ 2) = false := decide_eq_false h2
   go_enter Tryz.func8, Tryz.ntmps8
   go_wp2_with fail
   go_ret
   exact ⟨by simp [okO, h1] <;> omega, (Kept.refl Nil w).alloc _⟩
 ·have h1' : decide ((0 : Int) ≤ o1) = false := decide_eq_false h1
  go_enter Tryz.func8, Tryz.ntmps8
  go_wp2_with fail
  go_ret
  exact ⟨by simp [okO] <;> omega, (Kept.refl Nil w).alloc _⟩
def OpS (B P : Nat) (q : Nv) (x : Int) (y : Option Nat) (o1 o2 o3 : Int) (w' : World) : Prop := (w'.cell? ⟨B, 0, none⟩ = some (.int .i64 o1) ∧ w'.cell? ⟨B, 1, none⟩ = some (.int .i64 o2) ∧ w'.cell? ⟨B, 2, none⟩ = some (.int .i64 o3)) ∧
 w'.cell? ⟨P, 0, none⟩ = some (.int .i64 q.k) ∧ w'.cell? ⟨P, 1, none⟩ = some (.slice q.pa q.pn q.pc) ∧ w'.cell? ⟨P, 2, none⟩ = some (.slice q.sa q.sn q.sc) ∧ w'.cell? ⟨P, 3, none⟩ = some (.int .i64 q.ed) ∧ w'.cell? ⟨P, 4, none⟩ = some (.int .i64 q.gr) ∧ w'.cell? ⟨P, 5, none⟩ = some (.int .i64 q.lo) ∧ w'.cell? ⟨P, 6, none⟩ = some (.int .i64 q.hi) ∧ w'.cell? ⟨P, 7, none⟩ = some (.bool q.lz) ∧ w'.cell? ⟨P, 8, none⟩ = some (.int .i64 x) ∧ w'.cell? ⟨P, 9, none⟩ = some (.map y)
theorem OpS.of {W : World} {B P : Nat} {q : Nv} {x : Int} {y : Option Nat} {o1 o2 o3 : Int} {t t' : TypeId} (h : Blk W B #[.int .i64 o1, .int .i64 o2, .int .i64 o3] t) (h' : Blk W P (patCells q x y) t') : OpS B P q x y o1 o2 o3 W := ⟨⟨h.cell 0, h.cell 1, h.cell 2⟩, h'.ten⟩
def OpenP (w : World) (f : Int) (ok : Bool) : Ending → World → Prop := fun e w' => Kept Nil w w' ∧
 ((f ≠ 0 ∧ e = .returned (.tuple #[.pointer none, .int .i64 f])) ∨ (f = 0 ∧ ok = false ∧ e = .returned (.tuple #[.pointer none, .int .i64 8])) ∨ (f = 0 ∧ ok = true ∧ ∃ p : Nat, e = .returned (.tuple #[.pointer (some ⟨p, 0, none⟩), .int .i64 0])))
set_option maxHeartbeats 4000000 in
theorem open_short (s : ByteArray) (w : World) (hs : s.size ≤ 300) (o1 o2 o3 : Int) :
  Calls Tryz.prog 6 #[.string s, .agg #[.int .i64 o1, .int .i64 o2, .int .i64 o3]] w fun e w' => ∃ g, GOf g s ∧ OpenP w (refPick g s).1 (okO o1 o2 o3) e w' := by
 have B0 := Blk.new w #[.int .i64 o1, .int .i64 o2, .int .i64 o3] 23
 have HB := hid B0
 have K0 : Hid (Kept Nil w (w.alloc (.cells #[.int .i64 o1, .int .i64 o2, .int .i64 o3] 23))) := (Kept.refl Nil w).alloc _
 clear B0
 go_enter Tryz.func6, Tryz.ntmps6
 go_wp2_with fail
 refine (read_short s (w.alloc (.cells #[.int .i64 o1, .int .i64 o2, .int .i64 o3] 23)) hs).mono ?_
 rintro e w1 ⟨g, q, x, y, st, hr, hp, rfl, k1, hst, hz⟩
 have hg : GOf g s := ⟨hr, hp⟩
 have ha := pick_alike hg hs
 have HG := hid hg
 have s1 := k1.size
 simp only [size_alloc0] at s1
 have K1 := hid (K0.out.trans k1)
 have L1 := (Blk.new w1 (patCells q x y) 59)
 have L0 := ((HB.out.kept k1 (fun hx => hx)).alloc (.cells (patCells q x y) 59))
 have HL := hid (And.intro L0 L1)
 have hz' : (refPick g s).1 = 0 → x = st.groups ∧ y = some g.bn ∧ RdAt w1 g false { st with flt := finFlt g s } ∧ PTAt w1 (w.alloc (.cells #[.int .i64 o1, .int .i64 o2, .int .i64 o3] 23)).heap.size w1.heap.size q (pWhole g (st0 s)).2 (cWhole g (st0 s)) ∧ ∀ i, g.use i → (w.alloc (.cells #[.int .i64 o1, .int .i64 o2, .int .i64 o3] 23)).heap.size ≤ i := by rw [← ha]; exact hz
 have HZ : Hid ((refPick g s).1 = 0 → PTAt w1 (w.alloc (.cells #[.int .i64 o1, .int .i64 o2, .int .i64 o3] 23)).heap.size w1.heap.size q (pWhole g (st0 s)).2 (cWhole g (st0 s)) ∧ (cWhole g (st0 s)).ok ∧ (cWhole g (st0 s)).sz ≤ 1000) := by
  intro h0
  obtain ⟨_, _, _, hpt, _⟩ := hz' h0
  have hc := fin_clean (by rw [ha]; exact h0)
  exact ⟨hpt, whole_ok g (st0 s) hc.1, by rw [hpt.size_eq]; exact hc.2⟩
 rw [ha]
 have HF := hid (show (refPick g s).1 = (refPick g s).1 from rfl)
 obtain ⟨f, hf⟩ : ∃ f, f = (refPick g s).1 := ⟨_, rfl⟩
 obtain ⟨f2, hf2⟩ : ∃ f, f = (refPick g s).2 := ⟨_, rfl⟩
 rw [← hf, ← hf2]
 rw [← hf] at HZ
 have FIN : Hid (∀ e w', OpenP w f (okO o1 o2 o3) e w' → ∃ g, GOf g s ∧ OpenP w (refPick g s).1 (okO o1 o2 o3) e w') := fun e w' h => ⟨g, HG.out, by rw [← hf]; exact h⟩
 generalize cWhole g (st0 s) = C at *
 generalize (pWhole g (st0 s)).2 = T at *
 clear ha hz hz' hg HF hf hf2 hr hp hst k1 L0 L1
 simp only [patVal, patCells]
 simp only [patCells] at HL
 by_cases h0 : f = 0
 ·have hz0 : (f != 0) = false := by simp [h0]
  obtain ⟨hpt, hcok, hcsz⟩ := HZ.out h0
  have HPT := hid hpt
  have c0 : (w1.alloc (.cells #[.int .i64 q.k, .slice q.pa q.pn q.pc, .slice q.sa q.sn q.sc, .int .i64 q.ed, .int .i64 q.gr, .int .i64 q.lo, .int .i64 q.hi, .bool q.lz, .int .i64 x, .map y] 59)).cell? ⟨w.heap.size, 0, none⟩ = some (.int .i64 o1) := HL.out.1.cell 0
  have c1 : (w1.alloc (.cells #[.int .i64 q.k, .slice q.pa q.pn q.pc, .slice q.sa q.sn q.sc, .int .i64 q.ed, .int .i64 q.gr, .int .i64 q.lo, .int .i64 q.hi, .bool q.lz, .int .i64 x, .map y] 59)).cell? ⟨w.heap.size, 1, none⟩ = some (.int .i64 o2) := HL.out.1.cell 1
  have c2 : (w1.alloc (.cells #[.int .i64 q.k, .slice q.pa q.pn q.pc, .slice q.sa q.sn q.sc, .int .i64 q.ed, .int .i64 q.gr, .int .i64 q.lo, .int .i64 q.hi, .bool q.lz, .int .i64 x, .map y] 59)).cell? ⟨w.heap.size, 2, none⟩ = some (.int .i64 o3) := HL.out.1.cell 2
  have d0 : w1.cell? ⟨w.heap.size, 0, none⟩ = some (.int .i64 o1) := (World.cell?_of_block (Below.heap_alloc w1 (.cells #[.int .i64 q.k, .slice q.pa q.pn q.pc, .slice q.sa q.sn q.sc, .int .i64 q.ed, .int .i64 q.gr, .int .i64 q.lo, .int .i64 q.hi, .bool q.lz, .int .i64 x, .map y] 59) w.heap.size (by omega))).symm.trans c0
  have d1 : w1.cell? ⟨w.heap.size, 1, none⟩ = some (.int .i64 o2) := (World.cell?_of_block (Below.heap_alloc w1 (.cells #[.int .i64 q.k, .slice q.pa q.pn q.pc, .slice q.sa q.sn q.sc, .int .i64 q.ed, .int .i64 q.gr, .int .i64 q.lo, .int .i64 q.hi, .bool q.lz, .int .i64 x, .map y] 59) w.heap.size (by omega))).symm.trans c1
  have d2 : w1.cell? ⟨w.heap.size, 2, none⟩ = some (.int .i64 o3) := (World.cell?_of_block (Below.heap_alloc w1 (.cells #[.int .i64 q.k, .slice q.pa q.pn q.pc, .slice q.sa q.sn q.sc, .int .i64 q.ed, .int .i64 q.gr, .int .i64 q.lo, .int .i64 q.hi, .bool q.lz, .int .i64 x, .map y] 59) w.heap.size (by omega))).symm.trans c2
  have hlt1 : w.heap.size < w1.heap.size := by omega
  clear c0 c1 c2 hpt HZ
  go_wp2_with fail
  refine (mayBe_any _ o1 o2 o3).mono ?_
  rintro e w2 ⟨rfl, k2⟩
  have K2 := hid k2
  have b0 := HL.out.1.kept k2 (fun hx => hx)
  have b1 := HL.out.2.kept k2 (fun hx => hx)
  have HL2 := hid (And.intro b0 b1)
  have s2 := k2.size
  simp only [size_alloc0] at s2
  clear k2 b0 b1
  cases hok : okO o1 o2 o3 with
  | false =>
   go_wp2_with fail
   go_ret2
   exact FIN.out _ _ ⟨(K1.out.alloc _).trans K2.out, Or.inr (Or.inl ⟨h0, hok, rfl⟩)⟩
  | true =>
   have ho2 : 2 ≤ o2 := by simp [okO] at hok; omega
   have PSG : Hid (∀ W, Kept Nil w2 W → OpS w.heap.size w1.heap.size q x y o1 o2 o3 W) := fun W k => OpS.of (HL2.out.1.kept k (fun hx => hx)) (HL2.out.2.kept k (fun hx => hx))
   have KW2 := hid ((K1.out.alloc (.cells #[.int .i64 q.k, .slice q.pa q.pn q.pc, .slice q.sa q.sn q.sc, .int .i64 q.ed, .int .i64 q.gr, .int .i64 q.lo, .int .i64 q.hi, .bool q.lz, .int .i64 x, .map y] 59)).trans K2.out)
   have HPT2 := hid (HPT.out.kept (((Kept.refl Nil w1).alloc (.cells #[.int .i64 q.k, .slice q.pa q.pn q.pc, .slice q.sa q.sn q.sc, .int .i64 q.ed, .int .i64 q.gr, .int .i64 q.lo, .int .i64 q.hi, .bool q.lz, .int .i64 x, .map y] 59)).trans K2.out) (fun _ _ _ hx => hx) (Nat.le_refl _))
   go_wp2_with fail
   refine wp_region_last (S := OpS w.heap.size w1.heap.size q x y o1 o2 o3) 6 (by kernel_rfl) rfl rfl rfl (by kernel_rfl) (by kernel_rfl) ?_
   have hS0 := PSG.out w2.drew (Kept.refl _ _).drew
   refine takeH 0 24 (.agg #[.int .i64 q.k, .slice q.pa q.pn q.pc, .slice q.sa q.sn q.sc, .int .i64 q.ed, .int .i64 q.gr, .int .i64 q.lo, .int .i64 q.hi, .bool q.lz, .int .i64 x, .map y]) rfl rfl (by kernel_rfl) (by kernel_rfl) (by kernel_rfl) (fun _ _ _ h => h) (Or.inl ⟨by rfl, fun W hSW => by obtain ⟨⟨s0, s1, s2⟩, t0, t1, t2, t3, t4, t5, t6, t7, t8, t9⟩ := hSW; go_simp⟩) hS0 ?_
   refine takeH 2 26 (.agg #[.int .i64 o1, .int .i64 o2, .int .i64 o3]) rfl rfl (by kernel_rfl) (by kernel_rfl) (by kernel_rfl) (fun _ _ _ h => h) (Or.inl ⟨by rfl, fun W hSW => by obtain ⟨⟨s0, s1, s2⟩, t0, t1, t2, t3, t4, t5, t6, t7, t8, t9⟩ := hSW; go_simp⟩) hS0 ?_
   simp only [Act.put, List.setIfInBounds_toArray, List.set_cons_zero, List.set_cons_succ]
   refine wpAnyH_ready (rs := [1]) (by kernel_rfl) (by simp) (AllReadyH.cons rfl (fun K hK => ?_) AllReadyH.nil)
   have F := New_rd (HPT2.out.kept ((Kept.refl Nil w2).drew) (fun _ _ _ hx => hx) (by omega)) (by show w1.heap.size ≤ w2.heap.size; omega) hcok hcsz x y
   simp only [patVal, patCells] at F
   have F := hid F
   go_simp
   refine (F.out).mono ?_
   rintro e w5 ⟨v5, V, j, rfl, k5, hmo, hmc, hlen⟩
   dsimp only
   have K5 := hid (((Kept.refl Nil w2).drew).trans k5)
   refine hK.out _ _ (PSG.out _ K5.out) (fun _ => ?_)
   clear hK K F
   obtain ⟨aov, cv, rfl⟩ : ∃ aov cv, v5 = .slice aov (sorted (built C).1 V).length cv := by obtain ⟨ws, a1, _⟩ := hmc; exact ownsRow_slice a1
   have hsl : (sorted (built C).1 V).length = V.ord.length := by simp [sorted]
   obtain ⟨u', hu1, hu2⟩ := hmo.start
   have ho := hmo.ords.1
   have s5 := k5.size
   have F2 := hid (flowNew_rd (u := V.num.getD j 0) (x := x) (o1 := o1) (o3 := o3) hmc (by show w1.heap.size ≤ _; simp at s5; omega) rfl (by omega) (by omega) ho2)
   generalize (sorted (built C).1 V).length = nn at *
   generalize V.num.getD j 0 = uu at *
   clear hmo hmc k5 hsl hu1 hu2 ho hlen
   refine wpAnyH_ready (rs := [3]) (by kernel_rfl) (by simp) (AllReadyH.cons rfl (fun K hK => ?_) AllReadyH.nil)
   go_simp
   refine (F2.out).mono ?_
   rintro e w6 ⟨p6, rfl, k6⟩
   dsimp only
   have K6 := hid (K5.out.trans k6)
   refine hK.out _ _ (PSG.out _ K6.out) (fun _ => ?_)
   clear hK K F2 k6
   refine wpAnyH_ready (rs := [4]) (by kernel_rfl) (by simp) (AllReadyH.cons rfl (fun K hK => ?_) AllReadyH.nil)
   go_simp
   refine hK.out _ _ (PSG.out _ K6.out) (fun _ => ?_)
   clear hK K
   refine wpAnyH_ready (rs := [5]) (by kernel_rfl) (by simp) (AllReadyH.cons rfl (fun K hK => ?_) AllReadyH.nil)
   go_simp
   refine hK.out _ _ (PSG.out _ (K6.out.alloc _)) (fun _ => ?_)
   clear hK K
   refine wpAnyH_done (by kernel_rfl) ?_ _
   unfold thenLast
   simp only [List.getElem_toArray, List.getElem_cons_succ, List.getElem_cons_zero]
   go_simp
   go_wp2_with fail
   go_ret2
   refine FIN.out _ _ ⟨?_, Or.inr (Or.inr ⟨h0, hok, _, rfl⟩)⟩
   exact (KW2.out.trans K6.out).alloc _
 ·have hz0 : (f != 0) = true := by simp [h0]
  go_wp2_with fail
  go_ret2
  exact FIN.out _ _ ⟨K1.out.alloc _, Or.inl ⟨h0, rfl⟩⟩
end Go.Proofs.YtfollffpibmgcaaGreatDoor
