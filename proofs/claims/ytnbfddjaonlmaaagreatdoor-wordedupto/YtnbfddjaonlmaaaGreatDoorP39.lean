/- Package whole's Events and All: the events of a text. -/
import Derived.Test.YtnbfddjaonlmaaaGreatDoorP38
namespace Go.Proofs.YtnbfddjaonlmaaaGreatDoor
open Go.RowKit Go.Maps
set_option linter.unusedVariables false
set_option maxRecDepth 100000

/-- the next place to look at: boundaries, and one place behind the text -/
def frOf (s : ByteArray) (i : Nat) : Nat := if i ≤ (runesOf s).length then bd s i else s.size + 1
theorem frOf_le {s : ByteArray} {i : Nat} (h : i ≤ (runesOf s).length) : frOf s i = bd s i := if_pos h
theorem frOf_end {s : ByteArray} {i : Nat} (h : (runesOf s).length < i) : frOf s i = s.size + 1 := if_neg (by omega)
theorem frOf_next {s : ByteArray} {i : Nat} (h : i ≤ (runesOf s).length) : bd s i < frOf s (i + 1) ∧ frOf s (i + 1) ≤ bd s i + 4 := by
  by_cases hl : i < (runesOf s).length
  · rw [frOf_le (by omega)]; exact bd_step hl
  · rw [frOf_end (by omega)]
    have := bd_end (s := s) (i := i) (by omega)
    omega
theorem width_fr (w : World) (s : ByteArray) (i : Nat) (hi : i ≤ (runesOf s).length) (hs : s.size ≤ 10000000) (hT : Tabs w) : Calls Tryz.prog 43 #[.string s, .int .i64 (bd s i : Int)] w fun e w' => e = .returned (.int .i64 ((frOf s (i + 1) : Int) - (bd s i : Int))) ∧ Kept Nil w w' := by
  by_cases hl : i < (runesOf s).length
  · rw [frOf_le (by omega)]; exact width_bd w s i hl hs hT
  · refine (width_rd s (bd s i) w (bd_le s i) (by omega) hT).mono ?_
    rintro e w' ⟨rfl, hk⟩
    refine ⟨?_, hk⟩
    have hb := bd_end (s := s) (i := i) (by omega)
    rw [frOf_end (by omega), hb]
    have e0 : (s.extract s.size s.size) = ByteArray.empty := by
      apply ByteArray.ext
      simp
    rw [e0]
    have e1 : (Lib.decodeGo ByteArray.empty).2 = 0 := by kernel_rfl
    rw [e1]
    congr 2
    omega
/-- an event's four cells -/
def evC (s : ByteArray) (N2 : Nat) (e : Ev) (gb : Nat) : List Value := [.int .i64 (bd s e.a : Int), .int .i64 (bd s e.b : Int), .slice (some ⟨gb, 0, none⟩) N2 N2, .string (s.extract (bd s e.a) (bd s e.b))]
def evF (s : ByteArray) (N2 : Nat) (l : List (Ev × Nat)) : List Value := l.flatMap fun p => evC s N2 p.1 p.2
/-- events in memory: l pairs each with the block of its groups -/
structure EvsAt (w : World) (base : Nat) (v : Value) (s : ByteArray) (N2 : Nat) (l : List (Ev × Nat)) : Prop where
  row : w.ownsRow base 45 4 v l.length (evF s N2 l)
  grp : ∀ p ∈ l, base ≤ p.2 ∧ Blk w p.2 (intL p.1.gs).toArray 3
theorem EvsAt.nil (w : World) (base : Nat) (s : ByteArray) (N2 : Nat) : EvsAt w base (.slice none 0 0) s N2 [] := ⟨World.ownsRow_nil _ _ _ _, fun p h => by cases h⟩
theorem EvsAt.kept {w w' : World} {base : Nat} {v : Value} {s : ByteArray} {N2 : Nat} {l : List (Ev × Nat)} {K : Nat → Prop} (h : EvsAt w base v s N2 l) (k : Kept K w w') (hK : ∀ i, base ≤ i → ¬ K i) : EvsAt w' base v s N2 l :=
  ⟨ownsRow_kept h.row k (fun b hb => hK b (ownsRow_block h.row hb).1), fun p hp => ⟨(h.grp p hp).1, (h.grp p hp).2.kept k (hK _ (h.grp p hp).1)⟩⟩
theorem evF_snoc (s : ByteArray) (N2 : Nat) (l : List (Ev × Nat)) (p : Ev × Nat) : evF s N2 (l ++ [p]) = evF s N2 l ++ evC s N2 p.1 p.2 := by unfold evF; simp
/-- a group's block is not the row of events -/
theorem EvsAt.not_row {w : World} {base : Nat} {v : Value} {s : ByteArray} {N2 : Nat} {l : List (Ev × Nat)} (h : EvsAt w base v s N2 l) {b : Nat} {cs : Array Value} (hb : Blk w b cs 3) : v.ownBlock ≠ some b := fun e => by
  rcases h.row.2 with ⟨rfl, _⟩ | ⟨g, cap, cur, rfl, a1, a2, r⟩
  · simp [Value.ownBlock] at e
  · simp [Value.ownBlock] at e
    subst e
    unfold Blk at hb
    rw [a2] at hb
    simp at hb
theorem EvsAt.push {w W w7 : World} {base : Nat} {v v' : Value} {s : ByteArray} {N2 : Nat} {l : List (Ev × Nat)} (h : EvsAt w base v s N2 l) (k0 : Kept Nil w W) {p : Ev × Nat} (hp : base ≤ p.2 ∧ Blk w p.2 (intL p.1.gs).toArray 3)
    (hown : w7.ownsRow base 45 4 v' (l.length + 1) (evF s N2 l ++ evC s N2 p.1 p.2)) (hg : W.grownBy w7 v.ownBlock) : EvsAt w7 base v' s N2 (l ++ [p]) ∧ Kept (fun i => base ≤ i) w w7 := by
  have k7 : Kept (fun j => v.ownBlock = some j) w w7 := (k0.mono (fun i hx => hx.elim)).grown hg (fun j hj => Or.inl hj)
  refine ⟨⟨by rw [List.length_append, evF_snoc]; exact hown, fun q hq => ?_⟩, k7.mono (fun i hi => (ownsRow_block h.row hi).1)⟩
  rcases List.mem_append.1 hq with hq | hq
  · exact ⟨(h.grp q hq).1, (h.grp q hq).2.kept k7 (h.not_row (h.grp q hq).2)⟩
  · simp at hq
    subst hq
    exact ⟨hp.1, hp.2.kept k7 (h.not_row hp.2)⟩
def toldV (s : ByteArray) (told : Option Nat) : Int := match told with
  | none => -1
  | some k => (bd s k : Int)
/-- the outlook and the events so far -/
structure EvP (w wr : World) (g : OG) (base cbk : Nat) (wf : List Nat) (N2 io : Nat) (v : Value) (l : List (Ev × Nat)) : Prop where
  out : ∃ blk wd, OutAt wr g blk wf wd ∧ g.ixs.getD blk 0 ≤ io
  evs : EvsAt wr base v g.s N2 l
  kept : Kept (fun i => i = g.ob ∨ i = g.WB ∨ i = cbk) w wr
/-- between two rounds of Events -/
structure EvR (w wr : World) (g : OG) (base cbk : Nat) (wf : List Nat) (T : Nat → Got) (N2 : Nat) (i : Nat) (told : Option Nat) (v : Value) (l : List (Ev × Nat)) : Prop where
  i_le : i ≤ (runesOf g.s).length + 1
  told_le : ∀ k, told = some k → k ≤ (runesOf g.s).length
  pt : EvP w wr g base cbk wf N2 i v l
  crs : Blk wr cbk #[.int .i64 (frOf g.s i : Int), .int .i64 (toldV g.s told)] 82
  rest : l.map (·.1) ++ evsFrom T (runesOf g.s).length i told = evsFrom T (runesOf g.s).length 0 none
  few : l.length ≤ i
theorem Tryz.infoEvent : (Tryz.prog.info? 45).map (fun i => (i.zero, i.size, i.bytes)) = some (some (.agg #[.int .i64 0, .int .i64 0, .slice none 0 0, .string ⟨#[]⟩]), 4, 56) := by kernel_rfl
def EvS9 (b10 b4 : Nat) (x y : Int) (s : ByteArray) (W : World) : Prop := (W.cell? ⟨b10, 0, none⟩ = some (.int .i64 x) ∧ W.cell? ⟨b10, 1, none⟩ = some (.int .i64 y)) ∧ W.cell? ⟨b4, 0, none⟩ = some (.string s) ∧ W.cell? ⟨b4, 1, none⟩ = some (.int .i64 0)
def EvS3 (cbk b4 : Nat) (f : Int) (s : ByteArray) (W : World) : Prop := W.cell? ⟨cbk, 0, none⟩ = some (.int .i64 f) ∧ W.cell? ⟨b4, 0, none⟩ = some (.string s)

theorem OtAt.one {w w' : World} {g : OG} {blk B : Nat} {wf wr : List Nat} (h : OtAt w g blk wf wr) (k : Kept (fun i => i = B) w w') (h1 : B ≠ g.ob ∧ B ≠ g.mb ∧ ¬ (g.lo ≤ B ∧ B < g.hi)) (h2 : B ≠ 0 ∧ B ≠ 1) (h3 : B ≠ g.bgb ∧ B ≠ g.fh ∧ B ≠ g.rh) (h4 : B ≠ g.FB ∧ B ≠ g.WB) : OtAt w' g blk wf wr where
  rk := h.rk.kept k (fun e => h1.1 e.symm) (fun e => h1.2.1 e.symm) (fun i a b e => h1.2.2 (by subst e; exact ⟨a, b⟩)) (fun e => h2.1 e.symm) (fun e => h2.2 e.symm)
  bg i hi := (k.cell (p := ⟨g.bgb, i, none⟩) h.lt.1 (fun e => h3.1 e.symm)).trans (h.bg i hi)
  fh i hi := (k.cell (p := ⟨g.fh, i, none⟩) h.lt.2.1 (fun e => h3.2.1 e.symm)).trans (h.fh i hi)
  rh i hi := (k.cell (p := ⟨g.rh, i, none⟩) h.lt.2.2 (fun e => h3.2.2 e.symm)).trans (h.rh i hi)
  lt := by have := k.size; have := h.lt; omega
  bf := h.bf.kept k (fun e => h4.1 e.symm)
  bw := h.bw.kept k (fun e => h4.2 e.symm)
  fl := h.fl
  wl := h.wl
theorem toldV_eq {s : ByteArray} {told : Option Nat} {j : Nat} (hj : j ≤ (runesOf s).length) (ht : ∀ k, told = some k → k ≤ (runesOf s).length) : ((bd s j : Int) == toldV s told) = decide (told = some j) := by
  cases told with
  | none => simp [toldV]
  | some k =>
    have hk := ht k rfl
    simp only [toldV, Option.some.injEq]
    rw [Bool.eq_iff_iff]
    simp only [beq_iff_eq, decide_eq_true_eq]
    constructor
    · intro h; exact (bd_inj hj hk (by omega)).symm
    · intro h; rw [h]

theorem EvP.keptN {w wr w' : World} {g : OG} {base cbk : Nat} {wf : List Nat} {N2 io : Nat} {v : Value} {l : List (Ev × Nat)} (h : EvP w wr g base cbk wf N2 io v l) (k : Kept Nil wr w') : EvP w w' g base cbk wf N2 io v l := by
  obtain ⟨blk, wd, o1, o2⟩ := h.out
  exact ⟨⟨blk, wd, o1.kept k, o2⟩, h.evs.kept k (fun _ _ h => h), h.kept.trans (k.mono (fun _ h => h.elim))⟩
theorem EvR.keptN {w wr w' : World} {g : OG} {base cbk : Nat} {wf : List Nat} {T : Nat → Got} {N2 i : Nat} {told : Option Nat} {v : Value} {l : List (Ev × Nat)} (h : EvR w wr g base cbk wf T N2 i told v l) (k : Kept Nil wr w') : EvR w w' g base cbk wf T N2 i told v l :=
  ⟨h.i_le, h.told_le, h.pt.keptN k, h.crs.kept k (fun h => h), h.rest, h.few⟩
theorem EvP.outs {w wr w' : World} {g : OG} {base cbk : Nat} {wf : List Nat} {N2 io io' : Nat} {v : Value} {l : List (Ev × Nat)} (h : EvP w wr g base cbk wf N2 io v l) (k : Kept (fun i => i = g.ob ∨ i = g.WB) wr w') (hb : g.below base) (ho : ∃ blk wd, OutAt w' g blk wf wd ∧ g.ixs.getD blk 0 ≤ io') : EvP w w' g base cbk wf N2 io' v l := by
  refine ⟨ho, h.evs.kept k (fun i hi e => ?_), h.kept.trans (k.mono (fun i e => by rcases e with e | e; exact Or.inl e; exact Or.inr (Or.inl e)))⟩
  unfold OG.below at hb
  omega
/-- the course is turned -/
theorem EvP.one {w wr w' : World} {g : OG} {base cbk : Nat} {wf : List Nat} {N2 io : Nat} {v : Value} {l : List (Ev × Nat)} (h : EvP w wr g base cbk wf N2 io v l) (k : Kept (fun i => i = cbk) wr w') (hcn : (cbk ≠ g.ob ∧ cbk ≠ g.mb ∧ ¬ (g.lo ≤ cbk ∧ cbk < g.hi)) ∧ (cbk ≠ g.bgb ∧ cbk ≠ g.fh ∧ cbk ≠ g.rh) ∧ cbk ≠ g.FB ∧ cbk ≠ g.WB) (hct : cbk ≠ 0 ∧ cbk ≠ 1) (hcb : cbk < base) : EvP w w' g base cbk wf N2 io v l := by
  obtain ⟨blk, wd, o1, o2⟩ := h.out
  exact ⟨⟨blk, wd, ⟨o1.at_.one k hcn.1 hct hcn.2.1 hcn.2.2, o1.lt, o1.firsts, o1.rows⟩, o2⟩, h.evs.kept k (fun i hi e => by omega), h.kept.trans (k.mono (fun i e => Or.inr (Or.inr e)))⟩
theorem EvP.later {w wr : World} {g : OG} {base cbk : Nat} {wf : List Nat} {N2 io io' : Nat} {v : Value} {l : List (Ev × Nat)} (h : EvP w wr g base cbk wf N2 io v l) (hi : io ≤ io') : EvP w wr g base cbk wf N2 io' v l := by
  obtain ⟨blk, wd, o1, o2⟩ := h.out
  exact ⟨⟨blk, wd, o1, by omega⟩, h.evs, h.kept⟩
/-- one more event -/
theorem EvP.push {w wr W w7 : World} {g : OG} {base cbk : Nat} {wf : List Nat} {N2 io : Nat} {v v' : Value} {l : List (Ev × Nat)} (h : EvP w wr g base cbk wf N2 io v l) (hb : g.below base) (hw : base = w.heap.size) (k0 : Kept Nil wr W) {p : Ev × Nat} (hp : base ≤ p.2 ∧ Blk wr p.2 (intL p.1.gs).toArray 3)
    (hown : w7.ownsRow base 45 4 v' (l.length + 1) (evF g.s N2 l ++ evC g.s N2 p.1 p.2)) (hg : W.grownBy w7 v.ownBlock) : EvP w w7 g base cbk wf N2 io v' (l ++ [p]) ∧ Kept (fun i => base ≤ i) wr w7 := by
  obtain ⟨e1, k1⟩ := h.evs.push k0 hp hown hg
  obtain ⟨blk, wd, o1, o2⟩ := h.out
  exact ⟨⟨⟨blk, wd, o1.far hb k1, o2⟩, e1, h.kept.trans' k1 (fun i hi e => by omega)⟩, k1⟩
/-- what Pass tells, and how the events go on -/
theorem pass_cases {g : OG} {T : Nat → Got} (hgo : GoesOn T (runesOf g.s).length) {i j : Nat} {gsF : List Int} {told : Option Nat} (hi : i ≤ (runesOf g.s).length) (hj : j ≤ (runesOf g.s).length) (hij : i ≤ j) (hT : T i = some (j, gsF)) (ht : ∀ k, told = some k → k ≤ (runesOf g.s).length) {wdt : Int} (hw : (bd g.s j : Int) + wdt = (frOf g.s (j + 1) : Int)) :
    ∃ (rb : Bool) (i' : Nat), (!(((bd g.s i : Int) == (bd g.s j : Int)) && ((bd g.s j : Int) == toldV g.s told))) = rb ∧ (if (bd g.s i : Int) = (bd g.s j : Int) then (bd g.s j : Int) + wdt else (bd g.s j : Int)) = (frOf g.s i' : Int) ∧ (i < i' ∧ i' ≤ (runesOf g.s).length + 1 ∧ j ≤ i') ∧ (rb = true → evsFrom T (runesOf g.s).length i told = ⟨i, j, gsF⟩ :: evsFrom T (runesOf g.s).length i' (some j)) ∧ (rb = false → evsFrom T (runesOf g.s).length i told = evsFrom T (runesOf g.s).length i' (some j)) := by
  have hev := evsFrom_some hgo hi hT (told := told)
  by_cases e : i = j
  · subst e
    rw [if_pos rfl] at hev
    rw [toldV_eq hj ht]
    by_cases e2 : told = some i
    · rw [if_pos e2] at hev
      refine ⟨false, i + 1, by simp [e2], by rw [if_pos rfl]; exact hw, by omega, fun h => (by cases h), fun _ => by rw [hev, e2]⟩
    · rw [if_neg e2] at hev
      exact ⟨true, i + 1, by simp [e2], by rw [if_pos rfl]; exact hw, by omega, fun _ => hev, fun h => (by cases h)⟩
  · rw [if_neg e] at hev
    have hne : (bd g.s i : Int) ≠ (bd g.s j : Int) := fun h => e (bd_inj hi hj (by omega))
    have hb : ((bd g.s i : Int) == (bd g.s j : Int)) = false := by simpa using hne
    refine ⟨true, j, by rw [hb]; rfl, by rw [if_neg hne, frOf_le hj], by omega, fun _ => hev, fun h => (by cases h)⟩
set_option maxHeartbeats 8000000 in
theorem Events_rd {w : World} {lo hi mb c cbk u0 G2 : Nat} {vs : List Sv} {ms : List MS} {s : ByteArray} {T : Nat → Got} (hM : MaAt w lo hi mb c vs ms) (hgd : MGood ms) (hq : AllQ (G2 : Int) ms) (hfew : ms.length ≤ 4001) (hs : s.size ≤ 10000000) (hu0 : u0 < ms.length) (hG2 : G2 ≤ 100000)
    (hT : ∀ i, i ≤ (runesOf s).length → Runs ms (txOf s) (u0 : Int) i (List.replicate (2 * G2) (-1)) (T i)) (hgo : GoesOn T (runesOf s).length) (hc : Blk w cbk #[.int .i64 0, .int .i64 (-1)] 82) (hcb : cbk ≠ mb ∧ ¬ (lo ≤ cbk ∧ cbk < hi) ∧ cbk ≠ 0 ∧ cbk ≠ 1) :
    Calls Tryz.prog 32 #[.agg #[.slice (some ⟨mb, 0, none⟩) ms.length c, .int .i64 (u0 : Int), .int .i64 (G2 : Int)], .agg #[.string s, .int .i64 0, .int .i32 (-1), .int .i32 (-1), .bool false], .pointer (some ⟨cbk, 0, none⟩)] w fun e w' => ∃ (v : Value) (l : List (Ev × Nat)), e = .returned v ∧ EvsAt w' w.heap.size v s (2 * G2) l ∧ l.map (·.1) = evsFrom T (runesOf s).length 0 none ∧ Kept (fun i => i = cbk) w w' := by
  have HM := hid hM
  have HGD := hid hgd
  have HQ := hid hq
  have HT := hid hT
  have HGO := hid hgo
  have HC := hid hc
  have hcl := hc.lt
  obtain ⟨ie, hie, hze, hse, hbe⟩ := info_parts Tryz.infoEvent
  clear hM hgd hq hT hgo hc
  go_enter Tryz.func32, Tryz.ntmps32
  go_wp2_with fail
  have B3 : Hid (Blk ((w.alloc (.cells #[.slice (some ⟨mb, 0, none⟩) ms.length c, .int .i64 (u0 : Int), .int .i64 (G2 : Int)] 65)).alloc (.cells #[.string s, .int .i64 0, .int .i32 (-1), .int .i32 (-1), .bool false] 86)) w.heap.size #[.slice (some ⟨mb, 0, none⟩) ms.length c, .int .i64 (u0 : Int), .int .i64 (G2 : Int)] 65) := (Blk.new w _ _).alloc _
  have B4 : Hid (Blk ((w.alloc (.cells #[.slice (some ⟨mb, 0, none⟩) ms.length c, .int .i64 (u0 : Int), .int .i64 (G2 : Int)] 65)).alloc (.cells #[.string s, .int .i64 0, .int .i32 (-1), .int .i32 (-1), .bool false] 86)) (w.heap.size + 1) #[.string s, .int .i64 0, .int .i32 (-1), .int .i32 (-1), .bool false] 86) := by
    have := Blk.new (w.alloc (.cells #[.slice (some ⟨mb, 0, none⟩) ms.length c, .int .i64 (u0 : Int), .int .i64 (G2 : Int)] 65)) #[.string s, .int .i64 0, .int .i32 (-1), .int .i32 (-1), .bool false] 86
    rw [size_alloc1] at this
    exact this
  have K1 : Hid (Kept Nil w ((w.alloc (.cells #[.slice (some ⟨mb, 0, none⟩) ms.length c, .int .i64 (u0 : Int), .int .i64 (G2 : Int)] 65)).alloc (.cells #[.string s, .int .i64 0, .int .i32 (-1), .int .i32 (-1), .bool false] 86))) := ((Kept.refl Nil w).alloc _).alloc _
  have hs1 : ((w.alloc (.cells #[.slice (some ⟨mb, 0, none⟩) ms.length c, .int .i64 (u0 : Int), .int .i64 (G2 : Int)] 65)).alloc (.cells #[.string s, .int .i64 0, .int .i32 (-1), .int .i32 (-1), .bool false] 86)).heap.size = w.heap.size + 1 + 1 := by simp
  generalize ((w.alloc (.cells #[.slice (some ⟨mb, 0, none⟩) ms.length c, .int .i64 (u0 : Int), .int .i64 (G2 : Int)] 65)).alloc (.cells #[.string s, .int .i64 0, .int .i32 (-1), .int .i32 (-1), .bool false] 86)) = w1 at *
  have F := hid (newOutlook_rd (st := (u0 : Int)) (G := (G2 : Int)) (HM.out.kept K1.out) HGD.out HQ.out hfew hs)
  refine (F.out).mono ?_
  rintro e w2 ⟨g, wf, wd, rfl, hgf, hgok, hO, k2⟩
  have START : Hid (EvR w2 w2 g w2.heap.size cbk wf T (2 * G2) 0 none (.slice none 0 0) []) := by
    have hk := K1.out.trans k2
    refine ⟨Nat.zero_le _, fun k h => (by cases h), ⟨⟨0, wd, hO, by rw [hgok.bg.zero]; exact Nat.le_refl _⟩, EvsAt.nil _ _ _ _, Kept.refl _ _⟩, ?_, rfl, Nat.le_refl _⟩
    have := HC.out.kept hk (fun h => h)
    rw [frOf_le (Nat.zero_le _), bd_zero]
    exact this
  have HGF := hid hgf
  have HOK := hid hgok
  have HBE := hid hO.at_.below
  have B32 := hid (B3.out.kept k2 (fun h => h))
  have B42 := hid (B4.out.kept k2 (fun h => h))
  have K2 := hid (K1.out.trans k2)
  have hsz2 := k2.size
  have egs : g.s = s := hgf.2.1
  have egm : g.ms = ms := hgf.1
  have HST : Hid (g.st = (u0 : Int)) := hgf.2.2.1
  have HGG : Hid (g.G = (G2 : Int)) := hgf.2.2.2.1
  have hgob : w.heap.size + 1 + 1 ≤ g.ob ∧ w.heap.size + 1 + 1 ≤ g.WB := by rw [← hs1]; exact ⟨hgf.2.2.2.2.2.2.2.1, hgf.2.2.2.2.2.2.2.2.1⟩
  have HCN : Hid ((cbk ≠ g.ob ∧ cbk ≠ g.mb ∧ ¬ (g.lo ≤ cbk ∧ cbk < g.hi)) ∧ (cbk ≠ g.bgb ∧ cbk ≠ g.fh ∧ cbk ≠ g.rh) ∧ cbk ≠ g.FB ∧ cbk ≠ g.WB) := by
    obtain ⟨e1, e2, e3, e4, e5, e6, e7, e8, e9, e10, e11, e12, e13, e14, e15⟩ := hgf
    rw [e5, e10, e11]
    exact ⟨⟨by omega, hcb.1, hcb.2.1⟩, ⟨by omega, by omega, by omega⟩, by omega, by omega⟩
  clear hgf hgok hO k2 F B3 B4
  subst egs egm
  go_wp2_with fail
  go_loopg [7] ((runesOf g.s).length + 1) (fun kk v wr => ∃ (i : Nat) (told : Option Nat) (l : List (Ev × Nat)), kk = (runesOf g.s).length + 1 - i ∧ Hid (EvR w2 wr g w2.heap.size cbk wf T (2 * G2) i told v l))
  case atStart => exact ⟨0, none, [], rfl, START⟩
  case round =>
    obtain ⟨i, told, l, hkk, HI⟩ := hrel
    clear START
    have cC : wr.cell? ⟨cbk, 0, none⟩ = some (.int .i64 (frOf g.s i : Int)) := HI.out.crs.cell 0
    have b4 := B42.out.kept HI.out.pt.kept (by show ¬ (w.heap.size + 1 = g.ob ∨ w.heap.size + 1 = g.WB ∨ w.heap.size + 1 = cbk); omega)
    have b3 := B32.out.kept HI.out.pt.kept (by show ¬ (w.heap.size = g.ob ∨ w.heap.size = g.WB ∨ w.heap.size = cbk); omega)
    have t0 : wr.cell? ⟨w.heap.size + 1, 0, none⟩ = some (.string g.s) := b4.cell 0
    have t1 : wr.cell? ⟨w.heap.size + 1, 1, none⟩ = some (.int .i64 0) := b4.cell 1
    have m1 : wr.cell? ⟨w.heap.size, 1, none⟩ = some (.int .i64 (u0 : Int)) := b3.cell 1
    have HB3 := hid b3
    have HB4 := hid b4
    clear b3 b4
    obtain ⟨ao, cv, hv⟩ := ownsRow_slice HI.out.pt.evs.row
    subst hv
    by_cases hin : i ≤ (runesOf g.s).length
    · have hbd := bd_le g.s i
      rw [frOf_le hin] at cC
      have hle : (bd g.s i : Int) ≤ (g.s.size : Int) := by omega
      go_wp2_with fail
      go_big_quiet (fail)
      have HIa := hid (HI.out.keptN ((Kept.refl Nil wr).drewN nq))
      have HB3a : Hid (Blk (wr.drewN nq) w.heap.size #[.slice (some ⟨mb, 0, none⟩) g.ms.length c, .int .i64 (u0 : Int), .int .i64 (G2 : Int)] 65) := HB3.out
      have HB4a : Hid (Blk (wr.drewN nq) (w.heap.size + 1) #[.string g.s, .int .i64 0, .int .i32 (-1), .int .i32 (-1), .bool false] 86) := HB4.out
      have cCa : (wr.drewN nq).cell? ⟨cbk, 0, none⟩ = some (.int .i64 (bd g.s i : Int)) := cC
      have t1a : (wr.drewN nq).cell? ⟨w.heap.size + 1, 1, none⟩ = some (.int .i64 0) := t1
      have m1a : (wr.drewN nq).cell? ⟨w.heap.size, 1, none⟩ = some (.int .i64 (u0 : Int)) := m1
      generalize wr.drewN nq = wa at *
      clear HI HB3 HB4 cC t0 t1 m1
      go_wp2_with fail
      go_big_quiet (fail)
      have HIb := hid (HIa.out.keptN ((Kept.refl Nil wa).drewN nq))
      have HB3b : Hid (Blk (wa.drewN nq) w.heap.size #[.slice (some ⟨mb, 0, none⟩) g.ms.length c, .int .i64 (u0 : Int), .int .i64 (G2 : Int)] 65) := HB3a.out
      have HB4b : Hid (Blk (wa.drewN nq) (w.heap.size + 1) #[.string g.s, .int .i64 0, .int .i32 (-1), .int .i32 (-1), .bool false] 86) := HB4a.out
      have m1b : (wa.drewN nq).cell? ⟨w.heap.size, 1, none⟩ = some (.int .i64 (u0 : Int)) := m1a
      generalize wa.drewN nq = wb at *
      clear HIa HB3a HB4a cCa t1a m1a
      obtain ⟨blk, wd, hO, hbi⟩ := HIb.out.pt.out
      have F := comesOff_rd HOK.out hO (u := u0) hu0 hin hbi
      have HR := hid (HT.out i hin)
      have HO2 := hid hO
      have HBI := hid hbi
      clear hO hbi
      cases hTi : T i with
      | none =>
        rw [off_false (gs := List.replicate (2 * G2) (-1)) (by have := HR.out; rw [hTi] at this; exact this)] at F
        have F := hid F
        have HTI := hid hTi
        clear hTi
        go_wp2_with fail
        refine (F.out).mono ?_
        rintro e w5 ⟨rfl, blk5, wd5, o5, hb5, k5⟩
        have HI5 : Hid (EvR w2 w5 g w2.heap.size cbk wf T (2 * G2) i told (.slice ao l.length cv) l) := ⟨HIb.out.i_le, HIb.out.told_le, HIb.out.pt.outs k5 HBE.out ⟨blk5, wd5, o5, hb5⟩, HIb.out.crs.kept k5 (by have := HCN.out; omega), HIb.out.rest, HIb.out.few⟩
        have B45 := hid (HB4b.out.kept k5 (by show ¬ (w.heap.size + 1 = g.ob ∨ w.heap.size + 1 = g.WB); omega))
        have HT5 := hid o5.at_.rk.tabs
        clear o5 hb5 k5 F HIb HB3b HB4b m1b HO2 HBI HR
        go_wp2_with fail
        have PS : Hid (∀ W, Kept Nil w5 W → EvS3 cbk (w.heap.size + 1) (bd g.s i : Int) g.s W) := fun W k => by
          have a1 := (HI5.out.crs.kept k (fun h => h)).cell 0
          rw [frOf_le hin] at a1
          exact ⟨a1, (B45.out.kept k (fun h => h)).cell 0⟩
        have hS0 := PS.out w5.drew (Kept.refl Nil w5).drew
        refine wp_just (wp_region_last (S := EvS3 cbk (w.heap.size + 1) (bd g.s i : Int) g.s) 11 (by kernel_rfl) rfl rfl rfl (by kernel_rfl) (by kernel_rfl) ?_)
        refine takeH 0 39 (.pointer (some ⟨cbk, 0, none⟩)) rfl rfl (by kernel_rfl) (by kernel_rfl) (by kernel_rfl) (fun _ _ _ h => h) (Or.inl ⟨by rfl, fun W hSW => by obtain ⟨s0, s1⟩ := hSW; go_simp⟩) hS0 ?_
        refine takeH 1 40 (.pointer (some ⟨cbk, 0, none⟩)) rfl rfl (by kernel_rfl) (by kernel_rfl) (by kernel_rfl) (fun _ _ _ h => h) (Or.inl ⟨by rfl, fun W hSW => by obtain ⟨s0, s1⟩ := hSW; go_simp⟩) hS0 ?_
        refine takeH 2 41 (.pointer (some ⟨cbk, 0, none⟩)) rfl rfl (by kernel_rfl) (by kernel_rfl) (by kernel_rfl) (fun _ _ _ h => h) (Or.inl ⟨by rfl, fun W hSW => by obtain ⟨s0, s1⟩ := hSW; go_simp⟩) hS0 ?_
        refine takeH 3 42 (.int .i64 (bd g.s i : Int)) rfl rfl (by kernel_rfl) (by kernel_rfl) (by kernel_rfl) (fun _ _ _ h => h) (Or.inl ⟨by rfl, fun W hSW => by obtain ⟨s0, s1⟩ := hSW; go_simp⟩) hS0 ?_
        refine takeH 4 43 (.pointer (some ⟨w.heap.size + 1, 0, none⟩)) rfl rfl (by kernel_rfl) (by kernel_rfl) (by kernel_rfl) (fun _ _ _ h => h) (Or.inl ⟨by rfl, fun W hSW => by obtain ⟨s0, s1⟩ := hSW; go_simp⟩) hS0 ?_
        refine takeH 5 44 (.string g.s) rfl rfl (by kernel_rfl) (by kernel_rfl) (by kernel_rfl) (fun _ _ _ h => h) (Or.inl ⟨by rfl, fun W hSW => by obtain ⟨s0, s1⟩ := hSW; go_simp⟩) hS0 ?_
        refine takeH 6 45 (.int .i64 (bd g.s i : Int)) rfl rfl (by kernel_rfl) (by kernel_rfl) (by kernel_rfl) (fun _ _ _ h => h) (Or.inl ⟨by rfl, fun W hSW => by obtain ⟨s0, s1⟩ := hSW; go_simp⟩) hS0 ?_
        simp only [Act.put, List.setIfInBounds_toArray, List.set_cons_zero, List.set_cons_succ]
        refine wpAnyH_ready (rs := [7]) (by kernel_rfl) (by simp) (AllReadyH.cons rfl (fun K hK => ?_) AllReadyH.nil)
        have F2 := width_fr w5.drew g.s i hin hs (HT5.out.keptN (Kept.refl Nil w5).drew)
        obtain ⟨wdt, hwd⟩ : ∃ wdt, wdt = (frOf g.s (i + 1) : Int) - (bd g.s i : Int) := ⟨_, rfl⟩
        rw [← hwd] at F2
        have hadd : (bd g.s i : Int) + wdt = (frOf g.s (i + 1) : Int) := by omega
        have hfn := frOf_next hin
        have hwr : IntKind.i64.wrap (frOf g.s (i + 1) : Int) = (frOf g.s (i + 1) : Int) := by rw [IntKind.wrap_i64]; omega
        have F2 := hid F2
        clear hwd
        go_simp
        refine (F2.out).mono ?_
        rintro e w6 ⟨rfl, k6⟩
        dsimp only
        have K6 : Hid (Kept Nil w5 w6) := (Kept.refl Nil w5).drew.trans k6
        refine hK.out _ _ (PS.out _ K6.out) (fun _ => ?_)
        clear hK K k6 F2
        refine wpAnyH_ready (rs := [8]) (by kernel_rfl) (by simp) (AllReadyH.cons rfl (fun K hK => ?_) AllReadyH.nil)
        go_simp
        refine hK.out _ _ (PS.out _ K6.out) (fun _ => ?_)
        clear hK K
        refine wpAnyH_ready (rs := [9]) (by kernel_rfl) (by simp) (AllReadyH.cons rfl (fun K hK => ?_) AllReadyH.nil)
        go_simp
        refine hK.out _ _ (PS.out _ K6.out) (fun _ => ?_)
        clear hK K
        refine wpAnyH_ready (rs := [10]) (by kernel_rfl) (by simp) (AllReadyH.cons rfl (fun K hK => ?_) AllReadyH.nil)
        go_simp
        refine hK.out _ _ (PS.out _ K6.out) (fun _ => ?_)
        clear hK K
        refine wpAnyH_done (by kernel_rfl) ?_ _
        unfold thenLast
        simp only [List.getElem_toArray, List.getElem_cons_succ, List.getElem_cons_zero]
        have hc6 := HI5.out.crs.kept K6.out (fun h => h)
        have x6 : w6.cell? ⟨cbk, 0, none⟩ = some (.int .i64 (frOf g.s i : Int)) := hc6.cell 0
        have y6 : w6.frozen? ⟨cbk, 0, none⟩ = false := hc6.frozen 0
        have FIN : Hid (EvR w2 (w6.setCell ⟨cbk, 0, none⟩ (.int .i64 (frOf g.s (i + 1) : Int))) g w2.heap.size cbk wf T (2 * G2) (i + 1) told (.slice ao l.length cv) l) := by
          have k : Kept (fun i => i = cbk) w6 (w6.setCell ⟨cbk, 0, none⟩ (.int .i64 (frOf g.s (i + 1) : Int))) := (Kept.refl (fun i => i = cbk) w6).setCell (p := ⟨cbk, 0, none⟩) (Or.inl rfl) _
          refine ⟨by omega, HI5.out.told_le, ((HI5.out.pt.keptN K6.out).one k HCN.out hcb.2.2 (by omega)).later (Nat.le_succ _), ?_, ?_, Nat.le_succ_of_le HI5.out.few⟩
          · have := hc6.setCell 0 (.int .i64 (frOf g.s (i + 1) : Int))
            simpa using this
          · rw [← evsFrom_none hin HTI.out]; exact HI5.out.rest
        clear hc6 PS hS0 K6 HI5 B45 HT5
        go_simp
        refine justN_n ?_
        go_wp2_with fail
        go_roundg ((runesOf g.s).length + 1 - (i + 1))
        case measure => omega
        case rel => exact ⟨i + 1, told, l, rfl, FIN⟩
      | some v =>
        obtain ⟨j, gsF⟩ := v
        rw [hTi] at HR
        rw [off_true HR.out] at F
        have F := hid F
        have HTI := hid hTi
        clear hTi
        go_wp2_with fail
        refine (F.out).mono ?_
        rintro e w5 ⟨rfl, blk5, wd5, o5, hb5, k5⟩
        have HP5 := hid (HIb.out.pt.outs k5 HBE.out ⟨blk5, wd5, o5, hb5⟩)
        have HC5 := hid (HIb.out.crs.kept k5 (by have := HCN.out; omega))
        have B45 := hid (HB4b.out.kept k5 (by show ¬ (w.heap.size + 1 = g.ob ∨ w.heap.size + 1 = g.WB); omega))
        have HREST := hid HIb.out.rest
        have HTL := hid HIb.out.told_le
        have hlf := HIb.out.few
        have F2 := hid (match_rd HOK.out o5 hin hb5 HST.out hu0 HGG.out hG2 HR.out)
        have hs5 : w2.heap.size ≤ w5.heap.size := HP5.out.kept.size
        clear o5 hb5 k5 F HIb HB3b HB4b m1b HO2 HBI
        go_wp2_with fail
        refine (F2.out).mono ?_
        rintro e w6 ⟨gb, rfl, hgb, hBg, blk6, wd6, o6, hb6, k6⟩
        have hfw := HR.out.fwd hin j gsF rfl
        have hjn : j ≤ (runesOf g.s).length := hfw.2.1
        have hij := hfw.1
        have HP6 := hid (HP5.out.outs k6 HBE.out ⟨blk6, wd6, o6, hb6⟩)
        have HC6 := hid (HC5.out.kept k6 (by have := HCN.out; omega))
        have B46 := hid (B45.out.kept k6 (by show ¬ (w.heap.size + 1 = g.ob ∨ w.heap.size + 1 = g.WB); omega))
        have HBG := hid hBg
        have HT6 := hid o6.at_.rk.tabs
        have hs6 := k6.size
        have hbdj := bd_le g.s j
        clear hfw o6 hb6 k6 hBg F2 HP5 HC5 B45
        go_wp2_with fail
        have k67 : Kept Nil w6 (w6.alloc (.cells #[.int .i64 (bd g.s i : Int), .int .i64 (bd g.s j : Int), .slice (some ⟨gb, 0, none⟩) (2 * G2) (2 * G2), .string (g.s.extract (bd g.s i) (bd g.s j))] 45)) := (Kept.refl Nil w6).alloc _
        have HP7 := hid (HP6.out.keptN k67)
        have HC7 := hid (HC6.out.kept k67 (fun h => h))
        have B47 := hid (B46.out.kept k67 (fun h => h))
        have HBG7 := hid (HBG.out.kept k67 (fun h => h))
        have HT7 := hid (HT6.out.keptN k67)
        have B10 : Hid (Blk (w6.alloc (.cells #[.int .i64 (bd g.s i : Int), .int .i64 (bd g.s j : Int), .slice (some ⟨gb, 0, none⟩) (2 * G2) (2 * G2), .string (g.s.extract (bd g.s i) (bd g.s j))] 45)) w6.heap.size #[.int .i64 (bd g.s i : Int), .int .i64 (bd g.s j : Int), .slice (some ⟨gb, 0, none⟩) (2 * G2) (2 * G2), .string (g.s.extract (bd g.s i) (bd g.s j))] 45) := Blk.new w6 _ _
        have hs7 : w6.heap.size < (w6.alloc (.cells #[.int .i64 (bd g.s i : Int), .int .i64 (bd g.s j : Int), .slice (some ⟨gb, 0, none⟩) (2 * G2) (2 * G2), .string (g.s.extract (bd g.s i) (bd g.s j))] 45)).heap.size := by simp
        generalize w6.alloc (.cells #[.int .i64 (bd g.s i : Int), .int .i64 (bd g.s j : Int), .slice (some ⟨gb, 0, none⟩) (2 * G2) (2 * G2), .string (g.s.extract (bd g.s i) (bd g.s j))] 45) = w7 at *
        obtain ⟨b10, hb10⟩ : ∃ b10, b10 = w6.heap.size := ⟨_, rfl⟩
        rw [← hb10] at B10 hs7 hs6 ⊢
        clear hb10 k67 HP6 HC6 B46 HBG HT6
        have PS : Hid (∀ W, Kept Nil w7 W → EvS9 b10 (w.heap.size + 1) (bd g.s i : Int) (bd g.s j : Int) g.s W) := fun W k => ⟨⟨(B10.out.kept k (fun h => h)).cell 0, (B10.out.kept k (fun h => h)).cell 1⟩, (B47.out.kept k (fun h => h)).cell 0, (B47.out.kept k (fun h => h)).cell 1⟩
        have hS0 := PS.out w7.drew (Kept.refl Nil w7).drew
        refine wp_just (wp_region_last (S := EvS9 b10 (w.heap.size + 1) (bd g.s i : Int) (bd g.s j : Int) g.s) 13 (by kernel_rfl) rfl rfl rfl (by kernel_rfl) (by kernel_rfl) ?_)
        refine takeH 0 58 (.pointer (some ⟨cbk, 0, none⟩)) rfl rfl (by kernel_rfl) (by kernel_rfl) (by kernel_rfl) (fun _ _ _ h => h) (Or.inl ⟨by rfl, fun W hSW => by obtain ⟨⟨s0, s1⟩, s2, s3⟩ := hSW; go_simp⟩) hS0 ?_
        refine takeH 1 59 (.pointer (some ⟨b10, 0, none⟩)) rfl rfl (by kernel_rfl) (by kernel_rfl) (by kernel_rfl) (fun _ _ _ h => h) (Or.inl ⟨by rfl, fun W hSW => by obtain ⟨⟨s0, s1⟩, s2, s3⟩ := hSW; go_simp⟩) hS0 ?_
        refine takeH 2 60 (.int .i64 (bd g.s i : Int)) rfl rfl (by kernel_rfl) (by kernel_rfl) (by kernel_rfl) (fun _ _ _ h => h) (Or.inl ⟨by rfl, fun W hSW => by obtain ⟨⟨s0, s1⟩, s2, s3⟩ := hSW; go_simp⟩) hS0 ?_
        refine takeH 3 61 (.pointer (some ⟨b10, 1, none⟩)) rfl rfl (by kernel_rfl) (by kernel_rfl) (by kernel_rfl) (fun _ _ _ h => h) (Or.inl ⟨by rfl, fun W hSW => by obtain ⟨⟨s0, s1⟩, s2, s3⟩ := hSW; go_simp⟩) hS0 ?_
        refine takeH 4 62 (.int .i64 (bd g.s j : Int)) rfl rfl (by kernel_rfl) (by kernel_rfl) (by kernel_rfl) (fun _ _ _ h => h) (Or.inl ⟨by rfl, fun W hSW => by obtain ⟨⟨s0, s1⟩, s2, s3⟩ := hSW; go_simp⟩) hS0 ?_
        refine takeH 5 63 (.pointer (some ⟨w.heap.size + 1, 0, none⟩)) rfl rfl (by kernel_rfl) (by kernel_rfl) (by kernel_rfl) (fun _ _ _ h => h) (Or.inl ⟨by rfl, fun W hSW => by obtain ⟨⟨s0, s1⟩, s2, s3⟩ := hSW; go_simp⟩) hS0 ?_
        refine takeH 6 64 (.string g.s) rfl rfl (by kernel_rfl) (by kernel_rfl) (by kernel_rfl) (fun _ _ _ h => h) (Or.inl ⟨by rfl, fun W hSW => by obtain ⟨⟨s0, s1⟩, s2, s3⟩ := hSW; go_simp⟩) hS0 ?_
        refine takeH 7 65 (.pointer (some ⟨b10, 1, none⟩)) rfl rfl (by kernel_rfl) (by kernel_rfl) (by kernel_rfl) (fun _ _ _ h => h) (Or.inl ⟨by rfl, fun W hSW => by obtain ⟨⟨s0, s1⟩, s2, s3⟩ := hSW; go_simp⟩) hS0 ?_
        refine takeH 8 66 (.int .i64 (bd g.s j : Int)) rfl rfl (by kernel_rfl) (by kernel_rfl) (by kernel_rfl) (fun _ _ _ h => h) (Or.inl ⟨by rfl, fun W hSW => by obtain ⟨⟨s0, s1⟩, s2, s3⟩ := hSW; go_simp⟩) hS0 ?_
        refine takeH 9 67 (.pointer (some ⟨w.heap.size + 1, 1, none⟩)) rfl rfl (by kernel_rfl) (by kernel_rfl) (by kernel_rfl) (fun _ _ _ h => h) (Or.inl ⟨by rfl, fun W hSW => by obtain ⟨⟨s0, s1⟩, s2, s3⟩ := hSW; go_simp⟩) hS0 ?_
        refine takeH 10 68 (.int .i64 0) rfl rfl (by kernel_rfl) (by kernel_rfl) (by kernel_rfl) (fun _ _ _ h => h) (Or.inl ⟨by rfl, fun W hSW => by obtain ⟨⟨s0, s1⟩, s2, s3⟩ := hSW; go_simp⟩) hS0 ?_
        refine takeH 11 69 (.int .i64 (bd g.s j : Int)) rfl rfl (by kernel_rfl) (by kernel_rfl) (by kernel_rfl) (fun _ _ _ h => h) (Or.inl ⟨by rfl, fun W hSW => by obtain ⟨⟨s0, s1⟩, s2, s3⟩ := hSW; go_simp; rw [IntKind.wrap_i64]; omega⟩) hS0 ?_
        simp only [Act.put, List.setIfInBounds_toArray, List.set_cons_zero, List.set_cons_succ]
        refine wpAnyH_ready (rs := [12]) (by kernel_rfl) (by simp) (AllReadyH.cons rfl (fun K hK => ?_) AllReadyH.nil)
        have F2 := width_fr w7.drew g.s j hjn hs (HT7.out.keptN (Kept.refl Nil w7).drew)
        obtain ⟨wdt, hwd⟩ : ∃ wdt, wdt = (frOf g.s (j + 1) : Int) - (bd g.s j : Int) := ⟨_, rfl⟩
        rw [← hwd] at F2
        have hadd : (bd g.s j : Int) + wdt = (frOf g.s (j + 1) : Int) := by omega
        have hfn := frOf_next hjn
        have hwr : 0 ≤ wdt ∧ wdt ≤ 4 := by omega
        have HAD := hid hadd
        have F2 := hid F2
        clear hwd hadd hfn
        go_simp
        refine (F2.out).mono ?_
        rintro e w8 ⟨rfl, k8⟩
        dsimp only
        have K8 : Hid (Kept Nil w7 w8) := (Kept.refl Nil w7).drew.trans k8
        refine hK.out _ _ (PS.out _ K8.out) (fun _ => ?_)
        clear hK K k8 F2
        refine wpAnyH_done (by kernel_rfl) ?_ _
        unfold thenLast
        simp only [List.getElem_toArray, List.getElem_cons_succ, List.getElem_cons_zero]
        have F3 := pass_rd w8 cbk (frOf g.s i : Int) (toldV g.s told) (bd g.s i : Int) (bd g.s j : Int) wdt (HC7.out.kept K8.out (fun h => h)) (by omega) hwr
        obtain ⟨rb, i', hrb, hfr, hi', hev1, hev2⟩ := pass_cases HGO.out hin hjn hij HTI.out HTL.out HAD.out
        rw [hrb, hfr] at F3
        have F3 := hid F3
        have HP8 := hid (HP7.out.keptN K8.out)
        have HBG8 := hid (HBG7.out.kept K8.out (fun h => h))
        have B108 := hid (B10.out.kept K8.out (fun h => h))
        have hs8 := K8.out.size
        have HE1 := hid hev1
        have HE2 := hid hev2
        clear PS hS0 hrb hfr hev1 hev2 HP7 HC7 B47 HBG7 HT7 B10
        go_simp
        refine (F3.out).mono ?_
        rintro e w9 ⟨rfl, k9, hc9⟩
        dsimp only
        refine justN_n ?_
        have HP9 := hid ((HP8.out.one k9 HCN.out hcb.2.2 (by omega)).later (io' := i') (by omega))
        have HC9 := hid hc9
        have HBG9 := hid (HBG8.out.kept k9 (by omega))
        have B109 := k9.cell (p := ⟨b10, 0, none⟩) (by show b10 < _; omega) (by show ¬ b10 = cbk; omega)
        have BX := B108.out.kept k9 (by omega)
        have x0 : w9.cell? ⟨b10, 0, none⟩ = some (.int .i64 (bd g.s i : Int)) := BX.cell 0
        have x1 : w9.cell? ⟨b10, 1, none⟩ = some (.int .i64 (bd g.s j : Int)) := BX.cell 1
        have x2 : w9.cell? ⟨b10, 2, none⟩ = some (.slice (some ⟨gb, 0, none⟩) (2 * G2) (2 * G2)) := BX.cell 2
        have x3 : w9.cell? ⟨b10, 3, none⟩ = some (.string (g.s.extract (bd g.s i) (bd g.s j))) := BX.cell 3
        have hs9 := k9.size
        have hTJ : ∀ k, some j = some k → k ≤ (runesOf g.s).length := fun k h => by cases h; exact hjn
        clear B109 BX k9 hc9 F3 HP8 HBG8 B108
        cases rb with
        | false =>
          have FIN : Hid (EvR w2 w9 g w2.heap.size cbk wf T (2 * G2) i' (some j) (.slice ao l.length cv) l) := ⟨hi'.2.1, hTJ, HP9.out, HC9.out, by rw [← HE2.out rfl]; exact HREST.out, by omega⟩
          clear HP9 HC9 HE1 HE2 HREST
          go_wp2_with fail
          go_roundg ((runesOf g.s).length + 1 - i')
          case measure => omega
          case rel => exact ⟨i', some j, l, rfl, FIN⟩
        | true =>
          have hll : l.length ≤ 10000000 := by have := runes_le g.s; omega
          have HROW := hid HP9.out.evs.row
          go_wp2_with (at_builtin; refine wpList_append_own_at _ rfl _ _ 26 rfl w2.heap.size 45 ie _ 4 56 Tryz.underlying26 hie hze hse hbe rfl (by decide) _ _ _ rfl (HROW.out.alloc _) ⟨w9.heap.size, 0, none⟩ 1 1 (evC g.s (2 * G2) ⟨i, j, gsF⟩ gb) rfl rfl ?c1 ?c2 ?c3 ?c4 ?c5 ?_)
          case c1 =>
            intro q u hq
            simpa [evC] using hq
          case c2 =>
            intro u hu
            unfold evC at hu
            simp at hu
            rcases hu with rfl | rfl | rfl | rfl <;> rfl
          case c3 => unfold maxLen; omega
          case c4 => omega
          case c5 => omega
          intro v' w10 hown' hgrow hnil hloc
          obtain ⟨ao', c', rfl⟩ := ownsRow_slice hown'
          have FIN : Hid (EvR w2 w10 g w2.heap.size cbk wf T (2 * G2) i' (some j) (.slice ao' (l.length + 1) c') (l ++ [(⟨i, j, gsF⟩, gb)])) := by
            obtain ⟨hp, kp⟩ := HP9.out.push (p := (⟨i, j, gsF⟩, gb)) HBE.out rfl ((Kept.refl Nil w9).alloc _) ⟨by show w2.heap.size ≤ gb; omega, HBG9.out⟩ hown' hgrow
            refine ⟨hi'.2.1, hTJ, hp, HC9.out.kept kp (by omega), ?_, by simp; omega⟩
            rw [← HREST.out, HE1.out (by first | rfl | trivial)]
            simp
          clear hown' hgrow hnil hloc HP9 HC9 HE1 HE2 HREST HROW HBG9
          go_wp2_with fail
          go_roundg ((runesOf g.s).length + 1 - i')
          case measure => omega
          case rel => exact ⟨i', some j, l ++ [(⟨i, j, gsF⟩, gb)], rfl, FIN⟩
    · have hie' : i = (runesOf g.s).length + 1 := by have := HI.out.i_le; omega
      rw [frOf_end (by omega)] at cC
      have hle : ¬ ((g.s.size + 1 : Nat) : Int) ≤ (g.s.size : Int) := by omega
      have FIN : Hid (EvsAt wr w.heap.size (.slice ao l.length cv) g.s (2 * G2) l ∧ l.map (·.1) = evsFrom T (runesOf g.s).length 0 none ∧ Kept (fun i => i = cbk) w wr) := by
        have hr := HI.out.rest
        rw [evsFrom_end (by omega), List.append_nil] at hr
        have he := HI.out.pt.evs
        refine ⟨⟨ownsRow_lower he.row (by omega), fun p hp => ⟨by have := (he.grp p hp).1; omega, (he.grp p hp).2⟩⟩, hr, (K2.out.mono (S' := fun i => i = cbk) (fun _ h => h.elim)).trans' HI.out.pt.kept (fun i hi e => by omega)⟩
      clear HI HB3 HB4
      go_wp2_with fail
      go_big_quiet (fail)
      go_wp2_with fail
      go_ret
      exact ⟨_, l, rfl, FIN.out.1.kept ((Kept.refl Nil wr).drewN nq) (fun _ _ h => h), FIN.out.2.1, FIN.out.2.2.drewN nq⟩
end Go.Proofs.YtnbfddjaonlmaaaGreatDoor
