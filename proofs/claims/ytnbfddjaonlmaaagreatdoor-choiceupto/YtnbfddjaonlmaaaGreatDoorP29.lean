/- The program's machine of a pattern without a fault: New comes back with states in order. Small calls of package whole and package syntax: a row's has and put, width, Pass, isWord, Holds, the runes around a boundary. -/
import Derived.Test.YtnbfddjaonlmaaaGreatDoorP23
import Derived.Test.YtnbfddjaonlmaaaGreatDoorP27
import Derived.Test.YtnbfddjaonlmaaaGreatDoorP28
import Derived.Test.YtnbfddjaonlmaaaGreatDoorP14
import Derived.Test.YtnbfddjaonlmaaaGreatDoorP18
import Derived.Laws.BitsLemmas
import Derived.Lib.EndianBits
set_option linter.unusedVariables false
set_option maxRecDepth 100000
namespace Go.Proofs.YtnbfddjaonlmaaaGreatDoor
open Go.RowKit Go.Maps
set_option maxRecDepth 100000

theorem sizes_eq : ∀ (ts : List PT) (cs : List CT), cs.length = ts.length → (∀ i, (h : i < ts.length) → (h' : i < cs.length) → (cs[i]).sz = (ts[i]).size) → CT.szs cs = PT.sizes ts
  | [], [], _, _ => by simp [CT.szs, PT.sizes]
  | t :: ts, c :: cs, hl, h => by
    have h0 := h 0 (by simp) (by simp)
    have hr := sizes_eq ts cs (by simpa using hl) (fun i h1 h2 => by have := h (i + 1) (by simpa using h1) (by simpa using h2); simpa using this)
    simp only [CT.szs, PT.sizes]
    simp only [List.getElem_cons_zero] at h0
    omega
  | [], c :: cs, hl, _ => by simp at hl
  | t :: ts, [], hl, _ => by simp at hl
theorem PTAt.size_eq {w : World} {lo hi : Nat} {q : Nv} {T : PT} {C : CT} (h : PTAt w lo hi q T C) : C.sz = T.size := by
  induction h with
  | mk q tk pb bs ts cs V S sp fo nt hn hb hc hk hs hsc hr hkind ih =>
    have e := sizes_eq ts cs hn.2.1 (fun i h1 h2 => ih i h1 h2)
    have e2 : (cs.length : Int) = ts.length := by rw [hn.2.1]
    unfold CT.sz PT.size
    rcases hkind with ⟨h1, h2, _⟩ | ⟨h1, h2⟩ | ⟨h1, h2⟩ | ⟨h1, h2⟩ | ⟨h1, h2, _⟩ | ⟨h1, h2⟩ <;> rw [h1, h2, e] <;> simp [e2]

theorem pick_zero {F : Flt} (h : (pick F).1 = 0) : CleanF F ∧ F.big = none := by
  unfold pick at h
  unfold CleanF
  cases h1 : F.rune <;> rw [h1] at h <;> simp only at h
  · cases h2 : F.form <;> rw [h2] at h <;> simp only at h
    · cases h3 : F.rep <;> rw [h3] at h <;> simp only at h
      · cases h4 : F.cls <;> rw [h4] at h <;> simp only at h
        · cases h5 : F.nam <;> rw [h5] at h <;> simp only at h
          · cases h6 : F.big <;> rw [h6] at h <;> simp only at h
            · exact ⟨⟨rfl, rfl, rfl⟩, rfl⟩
            · omega
          · omega
        · omega
      · omega
    · omega
  · omega
theorem note_big {a : Flt} {p : Int} : (a.note 7 p).big ≠ none := by
  cases h : a.big with
  | none => simp [Flt.note, Flt.put, Flt.get, h]
  | some x => simp [Flt.note, Flt.get, h]
theorem fin_clean {g : RG} {s : ByteArray} (h : (pick (finFlt g s)).1 = 0) : CleanF (pWhole g (st0 s)).1.flt ∧ (pWhole g (st0 s)).2.size ≤ 1000 := by
  obtain ⟨h1, h2⟩ := pick_zero h
  unfold finFlt at h1 h2
  by_cases hs : 1000 < (pWhole g (st0 s)).2.size
  · rw [if_pos hs] at h2
    exact absurd h2 note_big
  · rw [if_neg hs] at h1
    exact ⟨h1, by omega⟩

theorem Vis.lat_le {M : List MS} {V V' : VS} {s : Int} (h : Vis M V s V') : V'.lat.length + V.ord.length ≤ V.lat.length + V'.ord.length := by
  induction h with
  | had V s v h hv => omega
  | stop V s m hn h hk => simp [VS.put]
  | take V s m hn h hk => simp [VS.put, VS.late]; omega
  | one V V' s m hn h hk hv ih => simp only [VS.put, List.length_append]; omega
  | two V V' V2 s m hn h hk hv hw ih ih' => simp only [VS.put, List.length_append]; omega
theorem Lates.lat_le {M : List MS} {at_ : Nat} {V V' : VS} (h : Lates M at_ V V') : V'.lat.length + V.ord.length ≤ V.lat.length + V'.ord.length := by
  induction h with
  | done a V h => omega
  | step a V V' V2 t h hv hl ih => have := hv.lat_le; omega

/-- the states ms, by the value v -/
def McAt (w : World) (lo hi base : Nat) (v : Value) (ms : List MS) : Prop := ∃ ws : List Sv, w.ownsRow base 94 6 v ms.length (flatS ws) ∧ ws.length = ms.length ∧ ∀ i, (h : i < ws.length) → (h' : i < ms.length) → SvAt w lo hi ws[i] ms[i]
theorem McAt.kept {w w' : World} {lo hi base : Nat} {v : Value} {ms : List MS} {K : Nat → Prop} (h : McAt w lo hi base v ms) (k : Kept K w w') (h1 : ∀ i, lo ≤ i → i < hi → ¬ K i) (h2 : ∀ i, v.ownBlock = some i → ¬ K i) (hle : hi ≤ w.heap.size) : McAt w' lo hi base v ms := by
  obtain ⟨ws, a1, a2, a3⟩ := h
  exact ⟨ws, ownsRow_kept a1 k h2, a2, fun i b1 b2 => (a3 i b1 b2).kept k h1 hle⟩
/-- V is the order in which the states of C come, j its first state -/
structure MOrd (C : CT) (V : VS) (j : Nat) : Prop where
  first : (built C).2.2 = j
  lates : Lates (built C).1 0 (VS.first (built C).1.length j) V
  inv : ∃ R, VInv (built C).1 R V ∧ Shut (built C).1 R ∧ R j
  all : AllOk (built C).1
  num : ∀ t, (t = j ∨ ∃ (s : Nat) (m : MS), s ∈ V.ord ∧ (built C).1[s]? = some m ∧ m.kind = 1 ∧ t = m.next.toNat) → ∃ u : Nat, V.num[t]? = some (u : Int)
theorem MOrd.exists {C : CT} (h : C.ok) (hs : C.sz ≤ 1000) : ∃ V j, MOrd C V j ∧ (built C).1.length ≤ 4001 ∧ 1 ≤ (built C).1.length := by
  obtain ⟨R, h1, ⟨j, h2, h3⟩, h4, h5, h6⟩ := built_shut h hs
  obtain ⟨V, v1, v2, v3⟩ := order_is h1 h3
  exact ⟨V, j, ⟨h2, v1, ⟨R, v2, h1, h3⟩, h4, v3⟩, h6, h5⟩
theorem MOrd.ords {C : CT} {V : VS} {j : Nat} (h : MOrd C V j) : V.ord.length ≤ (built C).1.length ∧ V.lat.length ≤ (built C).1.length + 1 ∧ (∀ s ∈ V.ord, s < (built C).1.length) ∧ j < (built C).1.length ∧ V.num.length = (built C).1.length := by
  obtain ⟨R, h1, h2, h3⟩ := h.inv
  have a := h1.ord_few
  have b := h.lates.lat_le
  simp only [VS.first, List.length_cons, List.length_nil] at b
  refine ⟨a, by omega, fun s hs => ?_, ?_, h1.len⟩
  · obtain ⟨k, hk, hs'⟩ := List.getElem_of_mem hs
    have := h1.at_ k s (by rw [List.getElem?_eq_getElem hk, hs'])
    have := (List.getElem?_eq_some_iff.1 this).1
    rw [h1.len] at this
    exact this
  · obtain ⟨m, hm, _⟩ := h2.cl j h3
    exact (List.getElem?_eq_some_iff.1 hm).1
/-- the first state's new number is that of a state -/
theorem MOrd.start {C : CT} {V : VS} {j : Nat} (h : MOrd C V j) : ∃ u : Nat, V.num.getD j 0 = (u : Int) ∧ u < V.ord.length := by
  obtain ⟨u, hu⟩ := h.num j (Or.inl rfl)
  obtain ⟨R, h1, _⟩ := h.inv
  obtain ⟨k, hk, hk2⟩ := h1.has j u hu (by omega)
  have e : k = u := by omega
  subst e
  exact ⟨k, by rw [List.getD_eq_getElem?_getD, hu]; rfl, (List.getElem?_eq_some_iff.1 hk2).1⟩

theorem BdAt.sts {w : World} {b lo hi : Nat} {v : Value} {st : List MS} (h : BdAt w b lo hi v st) (hne : st ≠ []) : ∃ g c vs, v = .slice (some ⟨g, 0, none⟩) st.length c ∧ StsAt w g vs st ∧ ∀ i, (h : i < vs.length) → (h' : i < st.length) → SvAt w lo hi vs[i] st[i] := by
  obtain ⟨vs, h1, h2, h3⟩ := h.row
  obtain ⟨hx, h1'⟩ := h1
  rcases h1' with ⟨_, h0⟩ | ⟨g, cap, cur, rfl, a1, a2, a3, a4, a5, a6⟩
  · exact absurd (List.length_eq_zero_iff.1 h0) hne
  · refine ⟨g, cap, vs, rfl, ⟨h2, fun i hi' j hj => ?_, (Array.getElem?_eq_some_iff.1 a2).1, fun i b1 b2 => ⟨(h3 i b1 b2).k, (h3 i b1 b2).nx, (h3 i b1 b2).ot⟩⟩, h3⟩
    have hf := flatS_get vs i (by omega) j hj
    rw [← hf, ← a6, List.getElem?_take_of_lt (by omega)]
    simp only [World.cell?, a2]
    simp
theorem moved_of (W : World) (p q : Int) : (Instr.field 96 (.agg #[.int .i64 p, .int .i64 q]) 1).run Tryz.prog W = .ok (.int .i64 q) W := by
  simp [Instr.field, asAgg, go_sem]

theorem McAt.block {w : World} {lo hi base : Nat} {v : Value} {ms : List MS} (h : McAt w lo hi base v ms) {i : Nat} (hi' : v.ownBlock = some i) : base ≤ i ∧ i < w.heap.size := by
  obtain ⟨ws, a1, _⟩ := h
  exact ownsRow_block a1 hi'
theorem mach_ret {f : Func} {Q : Ending → World → Prop} {a : Act} {W : World} {c i : Nat} {v : Value} {p q : Int} (hres : f.results = #[ResultVar.cell i 65]) (hslot : a.tmps.getD i undef = .pointer (some ⟨c, 0, none⟩)) (hd : a.defers = [])
    (hb : Blk W c #[v, .int .i64 p, .int .i64 q] 65) (hQ : Q (.returned (.agg #[v, .int .i64 p, .int .i64 q])) W) (hv : ∃ ao n k, v = .slice ao n k := by exact ⟨_, _, _, rfl⟩) : bodyPost Tryz.prog f Q Exit.ret a W := by
  have r0 : W.cell? ⟨c, 0, none⟩ = some v := hb.cell 0
  have r1 : W.cell? ⟨c, 1, none⟩ = some (.int .i64 p) := hb.cell 1
  have r2 : W.cell? ⟨c, 2, none⟩ = some (.int .i64 q) := hb.cell 2
  have hs2 : a.tmps[i]?.getD undef = .pointer (some ⟨c, 0, none⟩) := by simpa using hslot
  obtain ⟨ao, n, k, rfl⟩ := hv
  exact bodyPost_ret (v := .agg #[.slice ao n k, .int .i64 p, .int .i64 q]) (by simp [results, hres, go_sem, hs2, r0, r1, r2]) hd hQ

set_option maxHeartbeats 4000000 in
theorem New_rd {w : World} {lo hi : Nat} {q : Nv} {T : PT} {C : CT} (hP : PTAt w lo hi q T C) (hle : hi ≤ w.heap.size) (hok : C.ok) (hsz : C.sz ≤ 1000) (x : Int) (y : Option Nat) :
    Calls Tryz.prog 22 #[patVal q x y] w fun e w' => ∃ (v' : Value) (V : VS) (j : Nat), e = .returned (.agg #[v', .int .i64 (V.num.getD j 0), .int .i64 x]) ∧ Kept Nil w w' ∧ MOrd C V j ∧ McAt w' lo hi w.heap.size v' (sorted (built C).1 V) ∧ (built C).1.length ≤ 4001 := by
  obtain ⟨V, j, hMO, hlen, hlen1⟩ := MOrd.exists hok hsz
  obtain ⟨o1, o2, o3, o4, o5⟩ := hMO.ords
  have hbs := bPiece_bs C hok hsz
  have hnn := CT.sz_nonneg C hok
  have hx0 : XOk [zeroS].length (0, 0) := by unfold XOk; simp
  have PO := hid (hP.pcok (b := w.heap.size + 1 + 1) hok hsz)
  have kA : Kept Nil w ((w.alloc (.cells (patCells q x y) 59)).alloc (.cells #[.slice none 0 0, .int .i64 0, .int .i64 0] 65)) := ((Kept.refl Nil w).alloc _).alloc _
  have kB : Kept Nil w (((w.alloc (.cells (patCells q x y) 59)).alloc (.cells #[.slice none 0 0, .int .i64 0, .int .i64 0] 65)).alloc (.cells #[.slice none 0 0] 90)) := kA.alloc _
  have hB0 : BdAt (((w.alloc (.cells (patCells q x y) 59)).alloc (.cells #[.slice none 0 0, .int .i64 0, .int .i64 0] 65)).alloc (.cells #[.slice none 0 0] 90)) (w.heap.size + 1 + 1) lo hi (.slice none 0 0) [] :=
    ⟨by have := Blk.new ((w.alloc (.cells (patCells q x y) 59)).alloc (.cells #[.slice none 0 0, .int .i64 0, .int .i64 0] 65)) #[.slice none 0 0] 90; simpa using this, ⟨[], World.ownsRow_nil _ _ _ _, rfl, fun i h => by simp at h⟩, by omega, by simp⟩
  have F1 := add_rd hB0 (SvAt.zero _ lo hi) (by simp)
  simp only [Sv.val, Sv.cells] at F1
  have F1 := hid F1
  have LB0 : Loc (((w.alloc (.cells (patCells q x y) 59)).alloc (.cells #[.slice none 0 0, .int .i64 0, .int .i64 0] 65)).alloc (.cells #[.slice none 0 0] 90)) (w.heap.size + 1 + 1) (.slice none 0 0) w.heap.size (patCells q x y) 59 :=
    ⟨((Blk.new w (patCells q x y) 59).alloc _).alloc _, fun hx => by rcases hx with hx | hx; (· omega); (· cases hx)⟩
  have LB1 : Loc (((w.alloc (.cells (patCells q x y) 59)).alloc (.cells #[.slice none 0 0, .int .i64 0, .int .i64 0] 65)).alloc (.cells #[.slice none 0 0] 90)) (w.heap.size + 1 + 1) (.slice none 0 0) (w.heap.size + 1) #[.slice none 0 0, .int .i64 0, .int .i64 0] 65 :=
    ⟨by have := (Blk.new (w.alloc (.cells (patCells q x y) 59)) #[.slice none 0 0, .int .i64 0, .int .i64 0] 65).alloc (.cells #[.slice none 0 0] 90); simpa using this, fun hx => by rcases hx with hx | hx; (· omega); (· cases hx)⟩
  have PK := hid (And.intro LB0 (And.intro LB1 (And.intro kB hB0)))
  have HMO := hid hMO
  have HO3 := hid o3
  clear kA kB hB0 LB0 LB1 hP hMO o3 hbs
  simp only [patVal]
  simp only [patCells] at *
  go_enter Tryz.func22, Tryz.ntmps22
  go_wp2_with fail
  refine (F1.out).mono ?_
  rintro e w3 ⟨rfl, v3, h3, k3⟩
  obtain ⟨LB0, LB1, kB, hB0⟩ := PK.out
  have m0 := LB0.went k3
  have m1 := LB1.went k3
  have b0 : Blk w3 w.heap.size (patCells q x y) 59 := m0.blk
  obtain ⟨t0, t1, t2, t3, t4, t5, t6, t7, t8, t9⟩ := b0.ten
  have S0 : Sames lo hi w (((w.alloc (.cells (patCells q x y) 59)).alloc (.cells #[.slice none 0 0, .int .i64 0, .int .i64 0] 65)).alloc (.cells #[.slice none 0 0] 90)) := fun i _ h2 => kB.block i (by omega) (fun hx => hx)
  have S3 := S0.went hB0 k3
  have F2 := PO.out w3 v3 [zeroS] (0, 0) h3 hx0 S3 (by simp; omega)
  simp only [Nv.val, Nv.cells, exV] at F2
  have F2 := hid F2
  have W3 : Kept Nil w w3 := kB.nil_of k3.kept (fun i hi' => by have := hB0.own hi'; omega)
  have PK2 := hid (And.intro m0 (And.intro m1 (And.intro W3 h3)))
  have hsz3 := k3.kept.size
  have hb3 := h3.blk.lt
  clear LB0 LB1 kB hB0 m0 m1 b0 S0 S3 h3 k3 F1 PK W3 t8 t9
  go_wp2_with fail
  refine (F2.out).mono ?_
  rintro e w4 ⟨rfl, v4, h4, k4⟩
  obtain ⟨m0, m1, W3, h3⟩ := PK2.out
  have n0 := m0.went k4
  have n1 := m1.went k4
  have W4 : Kept Nil w w4 := W3.nil_of k4.kept (fun i hi' => by have := h3.own hi'; omega)
  obtain ⟨g, c, vs, hv4, hsts, hsv⟩ := h4.sts (by intro e; have : (built C).1.length = 0 := by rw [show (built C).1 = [] from e]; rfl
                                                  omega)
  subst hv4
  have c4 : w4.cell? ⟨w.heap.size + 1 + 1, 0, none⟩ = some (.slice (some ⟨g, 0, none⟩) (built C).1.length c) := h4.blk.cell 0
  have hfst := HMO.out.first
  have hszw := W4.size
  have F3 := inOrder_rd (c := c) (lo := lo) (hi := hi) (start := j) (VF := V) hsts hsv (by omega) HMO.out.all hlen HMO.out.lates (by omega) (by omega) HO3.out o4
  have F3 := hid F3
  have hmv := moved_of w4 (bPiece C [zeroS] (0, 0)).2.1 (bPiece C [zeroS] (0, 0)).2.2
  have hfst' : (bPiece C [zeroS] (0, 0)).2.2 = (j : Int) := hfst
  rw [hfst'] at hmv
  simp only
  rw [hfst']
  have b0 : Blk w4 w.heap.size (patCells q x y) 59 := n0.blk
  have PK3 := hid (And.intro n0.blk (And.intro n1.blk W4))
  have hb4 := h4.blk.lt
  clear m0 m1 W3 h3 n0 n1 W4 hsts hsv h4 k4 F2 PK2 b0 hfst hfst'
  go_wp2_with fail
  refine (F3.out).mono ?_
  rintro e w5 ⟨v', ws, rfl, k5, r1, r2, r3⟩
  obtain ⟨n0, n1, W4⟩ := PK3.out
  have p0 := n0.kept k5 (fun hx => hx)
  have p1 := n1.kept k5 (fun hx => hx)
  have c8 : w5.cell? ⟨w.heap.size, 8, none⟩ = some (.int .i64 x) := p0.cell 8
  have q0 : w5.cell? ⟨w.heap.size + 1, 0, none⟩ = some (.slice none 0 0) := p1.cell 0
  have q1 : w5.cell? ⟨w.heap.size + 1, 1, none⟩ = some (.int .i64 0) := p1.cell 1
  have q2 : w5.cell? ⟨w.heap.size + 1, 2, none⟩ = some (.int .i64 0) := p1.cell 2
  have g0 : w5.frozen? ⟨w.heap.size + 1, 0, none⟩ = false := p1.frozen 0
  have g1 : w5.frozen? ⟨w.heap.size + 1, 1, none⟩ = false := p1.frozen 1
  have g2 : w5.frozen? ⟨w.heap.size + 1, 2, none⟩ = false := p1.frozen 2
  obtain ⟨aov, cv, rfl⟩ := ownsRow_slice r1
  have s5 := k5.size
  have MC : McAt w5 lo hi w4.heap.size (.slice aov V.ord.length cv) (sorted (built C).1 V) := ⟨ws, by simpa [sorted] using r1, by simpa [sorted] using r2, r3⟩
  have FIN : Hid (Kept Nil w w5 ∧ McAt w5 lo hi w4.heap.size (.slice aov V.ord.length cv) (sorted (built C).1 V) ∧ Blk w5 (w.heap.size + 1) #[.slice none 0 0, .int .i64 0, .int .i64 0] 65) := ⟨W4.trans k5, MC, p1⟩
  generalize hu : V.num.getD j 0 = u at *
  have HU := hid hu
  clear n0 n1 W4 p0 p1 r1 r2 r3 k5 F3 PK3 MC hu
  go_wp2_with fail
  obtain ⟨f1, f2, f3⟩ := FIN.out
  have B3 := ((f3.setCell 0 (.slice aov V.ord.length cv)).setCell 1 (.int .i64 u)).setCell 2 (.int .i64 x)
  have k8 : Kept (fun i => i = w.heap.size + 1) w5 (((w5.setCell ⟨w.heap.size + 1, 0, none⟩ (.slice aov V.ord.length cv)).setCell ⟨w.heap.size + 1, 1, none⟩ (.int .i64 u)).setCell ⟨w.heap.size + 1, 2, none⟩ (.int .i64 x)) :=
    (((Kept.refl (fun i => i = w.heap.size + 1) w5).setCell (p := ⟨w.heap.size + 1, 0, none⟩) (Or.inl rfl) _).setCell (p := ⟨w.heap.size + 1, 1, none⟩) (Or.inl rfl) _).setCell (p := ⟨w.heap.size + 1, 2, none⟩) (Or.inl rfl) _
  refine mach_ret Tryz.results22 rfl rfl B3 ⟨_, V, j, by rw [HU.out], f1.nil_of k8 (fun i hi' => by omega), HMO.out, ?_, hlen⟩
  have f2' := f2.kept k8 (fun i _ h2 e => by omega) (fun i hi' e => by have := f2.block hi'; omega) (by omega)
  obtain ⟨ws', g1', g2', g3'⟩ := f2'
  exact ⟨ws', own32_base g1' (by omega), g2', g3'⟩
set_option maxRecDepth 100000

theorem width_rd (s : ByteArray) (p : Nat) (w : World) (hp : p ≤ s.size) (hs : s.size ≤ 1000000000) (hT : Tabs w) : Calls Tryz.prog 43 #[.string s, .int .i64 (p : Int)] w fun e w' => e = .returned (.int .i64 (max ((Lib.decodeGo (s.extract p s.size)).2 : Int) 1)) ∧ Kept Nil w w' := by
  have cD := decode_any (s.extract p s.size) w hT
  go_enter Tryz.func43, Tryz.ntmps43
  go_wp2_with fail
  refine cD.mono ?_
  rintro e w' ⟨rfl, hK⟩
  clear cD
  go_wp2_with fail
  go_ret
  exact ⟨rfl, hK⟩

/-! ## a row's bits -/
theorem bit_is (x k : Nat) (hx : x < 18446744073709551616) : (bits BinOp.and IntKind.u64 ((x : Int) / 2 ^ k) 1 != 0) = x.testBit k := by
  have hlt : x / 2 ^ k < 2 ^ 64 := Nat.lt_of_le_of_lt (Nat.div_le_self _ _) (by omega)
  have h := (bits_nat .u64 64 (by decide) wraps_u64 (x / 2 ^ k) 1 hlt (by decide)).1
  have e : ((x : Int) / 2 ^ k) = ((x / 2 ^ k : Nat) : Int) := by simp
  rw [e, show (1 : Int) = ((1 : Nat) : Int) from rfl, h, Nat.testBit, Nat.shiftRight_eq_div_pow, Nat.and_comm]
  rw [Bool.eq_iff_iff]
  simp only [bne_iff_ne, ne_eq]
  omega
theorem has_rd (w : World) (B o len cap : Nat) (x : Nat) (u : Nat) (hx : x < 18446744073709551616) (hu : u / 64 < len) (hu2 : u < 100000) (hc : w.cell? ⟨B, o + u / 64, none⟩ = some (.int .u64 (x : Int))) : Calls Tryz.prog 60 #[.slice (some ⟨B, o, none⟩) len cap, .int .i64 (u : Int)] w fun e w' => e = .returned (.bool (x.testBit (u % 64))) ∧ w' = w := by
  go_enter Tryz.func60, Tryz.ntmps60
  go_wp2_with fail
  go_ret
  exact ⟨by rw [bit_is x _ hx]; rfl, rfl⟩
theorem bit_put (x k : Nat) (hx : x < 18446744073709551616) (hk : k < 64) : bits BinOp.or IntKind.u64 (x : Int) (IntKind.u64.wrap (2 ^ k)) = ((x ||| 2 ^ k : Nat) : Int) := by
  have h2 : 2 ^ k < 2 ^ 64 := Nat.pow_lt_pow_right (by decide) hk
  have e : (2 : Int) ^ k = ((2 ^ k : Nat) : Int) := by simp
  rw [e, wraps_u64 _ (Int.natCast_nonneg _) (by exact_mod_cast h2)]
  exact (bits_nat .u64 64 (by decide) wraps_u64 x (2 ^ k) (by omega) h2).2
theorem put_rd (w : World) (B o len cap : Nat) (x : Nat) (u : Nat) (hx : x < 18446744073709551616) (hu : u / 64 < len) (hu2 : u < 100000) (hc : w.cell? ⟨B, o + u / 64, none⟩ = some (.int .u64 (x : Int))) (hf : w.frozen? ⟨B, o + u / 64, none⟩ = false) : Calls Tryz.prog 74 #[.slice (some ⟨B, o, none⟩) len cap, .int .i64 (u : Int)] w fun e w' => e = .returned (.tuple #[]) ∧ w' = w.drew.setCell ⟨B, o + u / 64, none⟩ (.int .u64 ((x ||| 2 ^ (u % 64) : Nat) : Int)) := by
  go_enter Tryz.func74, Tryz.ntmps74
  refine wp_region_last (S := fun W => W.cell? ⟨B, o + u / 64, none⟩ = some (.int .u64 (x : Int))) 10 (by kernel_rfl) rfl rfl rfl (by kernel_rfl) (by kernel_rfl) ?_
  have hS0 : (fun W : World => W.cell? ⟨B, o + u / 64, none⟩ = some (.int .u64 (x : Int))) w.drew := hc
  refine takeH 0 4 (.slice (some ⟨B, o, none⟩) len cap) rfl rfl (by kernel_rfl) (by kernel_rfl) (by kernel_rfl) (fun _ _ _ h => h) (Or.inl ⟨by rfl, fun W hSW => by go_simp⟩) hS0 ?_
  refine takeH 1 5 (.int .i64 (u : Int)) rfl rfl (by kernel_rfl) (by kernel_rfl) (by kernel_rfl) (fun _ _ _ h => h) (Or.inl ⟨by rfl, fun W hSW => by go_simp⟩) hS0 ?_
  refine takeH 2 6 (.int .i64 ((u : Int) / 64)) rfl rfl (by kernel_rfl) (by kernel_rfl) (by kernel_rfl) (fun _ _ _ h => h) (Or.inl ⟨by rfl, fun W hSW => by go_simp; rw [IntKind.wrap_i64]; omega⟩) hS0 ?_
  refine takeH 3 7 (.pointer (some ⟨B, o + u / 64, none⟩)) rfl rfl (by kernel_rfl) (by kernel_rfl) (by kernel_rfl) (fun _ _ _ h => h) (Or.inl ⟨by rfl, fun W hSW => by go_simp; rw [if_pos (by omega), show ((u : Int) / 64).toNat = u / 64 by omega]⟩) hS0 ?_
  refine takeH 4 8 (.int .u64 (x : Int)) rfl rfl (by kernel_rfl) (by kernel_rfl) (by kernel_rfl) (fun _ _ _ h => h) (Or.inl ⟨by rfl, fun W hSW => by go_simp⟩) hS0 ?_
  refine takeH 5 9 (.int .i64 (u : Int)) rfl rfl (by kernel_rfl) (by kernel_rfl) (by kernel_rfl) (fun _ _ _ h => h) (Or.inl ⟨by rfl, fun W hSW => by go_simp⟩) hS0 ?_
  refine takeH 6 10 (.int .i64 ((u : Int) % 64)) rfl rfl (by kernel_rfl) (by kernel_rfl) (by kernel_rfl) (fun _ _ _ h => h) (Or.inl ⟨by rfl, fun W hSW => by go_simp; exact Int.tmod_eq_emod_of_nonneg (by omega)⟩) hS0 ?_
  refine takeH 7 11 (.int .u64 (IntKind.u64.wrap (2 ^ (u % 64)))) rfl rfl (by kernel_rfl) (by kernel_rfl) (by kernel_rfl) (fun _ _ _ h => h) (Or.inl ⟨by rfl, fun W hSW => by go_simp; rw [show ((u : Int) % 64).toNat = u % 64 by omega]⟩) hS0 ?_
  refine takeH 8 12 (.int .u64 (bits .or .u64 (x : Int) (IntKind.u64.wrap (2 ^ (u % 64))))) rfl rfl (by kernel_rfl) (by kernel_rfl) (by kernel_rfl) (fun _ _ _ h => h) (Or.inl ⟨by rfl, fun W hSW => by go_simp⟩) hS0 ?_
  refine takeH 9 13 (.pointer (some ⟨B, o + u / 64, none⟩)) rfl rfl (by kernel_rfl) (by kernel_rfl) (by kernel_rfl) (fun _ _ _ h => h) (Or.inl ⟨by rfl, fun W hSW => by go_simp; rw [if_pos (by omega), show ((u : Int) / 64).toNat = u / 64 by omega]⟩) hS0 ?_
  simp only [Act.put, List.setIfInBounds_toArray, List.set_cons_zero, List.set_cons_succ]
  refine wpAnyH_done (by kernel_rfl) ?_ _
  unfold thenLast
  simp only [List.getElem_toArray, List.getElem_cons_succ, List.getElem_cons_zero]
  go_simp
  rw [bit_put x _ hx (by omega)]
  go_end0
  exact ⟨rfl, rfl⟩

/-- Pass: what it tells, and the course then -/
theorem pass_rd (w : World) (b : Nat) (f t st en wd : Int) (h : Blk w b #[.int .i64 f, .int .i64 t] 82) (h0 : 0 ≤ en ∧ en ≤ 1000000000) (h1 : 0 ≤ wd ∧ wd ≤ 4) : Calls Tryz.prog 45 #[.pointer (some ⟨b, 0, none⟩), .int .i64 st, .int .i64 en, .int .i64 wd] w fun e w' =>
    e = .returned (.bool (!(st == en && en == t))) ∧ Kept (fun i => i = b) w w' ∧ Blk w' b #[.int .i64 (if st = en then en + wd else en), .int .i64 en] 82 := by
  have c0 : w.cell? ⟨b, 0, none⟩ = some (.int .i64 f) := h.cell 0
  have c1 : w.cell? ⟨b, 1, none⟩ = some (.int .i64 t) := h.cell 1
  have f0 : w.frozen? ⟨b, 0, none⟩ = false := h.frozen 0
  have f1 : w.frozen? ⟨b, 1, none⟩ = false := h.frozen 1
  have H := hid h
  clear h
  by_cases e1 : st = en
  · subst e1
    by_cases e2 : st = t
    · subst e2
      go_enter Tryz.func45, Tryz.ntmps45
      go_wp2_with fail
      go_ret
      refine ⟨by simp, ((Kept.refl (fun i => i = b) w).setCell (p := ⟨b, 0, none⟩) (Or.inl rfl) _).setCell (p := ⟨b, 0, none⟩) (Or.inl rfl) _, ?_⟩
      have := ((H.out).setCell 0 (.int .i64 st)).setCell 0 (.int .i64 (st + wd))
      simpa using this
    · have e3 : (st == t) = false := by simpa using e2
      go_enter Tryz.func45, Tryz.ntmps45
      go_wp2_with fail
      go_ret
      refine ⟨by simp, (((Kept.refl (fun i => i = b) w).setCell (p := ⟨b, 0, none⟩) (Or.inl rfl) _).setCell (p := ⟨b, 0, none⟩) (Or.inl rfl) _).setCell (p := ⟨b, 1, none⟩) (Or.inl rfl) _, ?_⟩
      have := (((H.out).setCell 0 (.int .i64 st)).setCell 0 (.int .i64 (st + wd))).setCell 1 (.int .i64 st)
      simpa using this
  · have e3 : (st == en) = false := by simpa using e1
    go_enter Tryz.func45, Tryz.ntmps45
    go_wp2_with fail
    go_ret
    refine ⟨by simp, ((Kept.refl (fun i => i = b) w).setCell (p := ⟨b, 0, none⟩) (Or.inl rfl) _).setCell (p := ⟨b, 1, none⟩) (Or.inl rfl) _, ?_⟩
    have := ((H.out).setCell 0 (.int .i64 en)).setCell 1 (.int .i64 en)
    simpa using this

/-! ## edges -/
def wordR (c : Int) : Bool := c == 95 || (decide (48 ≤ c) && decide (c ≤ 57)) || (decide (65 ≤ c) && decide (c ≤ 90)) || (decide (97 ≤ c) && decide (c ≤ 122))
theorem isWord_rd (w : World) (c : Int) : Calls Tryz.prog 93 #[.int .i32 c] w fun e w' => e = .returned (.bool (wordR c)) ∧ w' = w := by
  go_enter Tryz.func93, Tryz.ntmps93
  go_wp2_with fail
  all_goals go_ret
  all_goals refine ⟨?_, rfl⟩
  all_goals refine congrArg Ending.returned ?_
  all_goals refine congrArg Value.bool ?_
  all_goals unfold wordR
  all_goals rw [Bool.eq_iff_iff]
  all_goals simp
  all_goals omega
/-- what Holds tells: the runes ahead and behind (or -1) -/
def holdsR (e ahead behind : Int) : Bool := if e = 0 then ahead == -1 else if e = 1 then behind == -1 else (wordR ahead != wordR behind) == (e == 2)
theorem holds_rd (w : World) (e a b : Int) : Calls Tryz.prog 73 #[.int .i64 e, .int .i32 a, .int .i32 b] w fun r w' => r = .returned (.bool (holdsR e a b)) ∧ w' = w := by
  have H1 := fun W => isWord_rd W a
  have H2 := fun W => isWord_rd W b
  have h1 := hid H1
  have h2 := hid H2
  clear H1 H2
  unfold holdsR
  by_cases e0 : e = 0
  · subst e0
    go_enter Tryz.func73, Tryz.ntmps73
    go_wp2_with fail
    go_ret
    exact ⟨rfl, rfl⟩
  · by_cases e1 : e = 1
    · subst e1
      go_enter Tryz.func73, Tryz.ntmps73
      go_wp2_with fail
      go_ret
      exact ⟨rfl, rfl⟩
    · have b0 : (e == 0) = false := by simpa using e0
      have b1 : (e == 1) = false := by simpa using e1
      go_enter Tryz.func73, Tryz.ntmps73
      go_wp2_with fail
      refine (h1.out w).mono ?_
      rintro r w' ⟨rfl, rfl⟩
      go_wp2_with fail
      refine (h2.out _).mono ?_
      rintro r w' ⟨rfl, rfl⟩
      go_wp2_with fail
      go_ret
      exact ⟨rfl, rfl⟩
/-- the runes around a place -/
theorem around_rd (w : World) (s : ByteArray) (p : Nat) (A B C : Int) (hp : p ≤ s.size) (hs : s.size ≤ 1000000000) (hT : Tabs w) : Calls Tryz.prog 71 #[.agg #[.string s, .int .i64 A, .int .i32 B, .int .i32 C, .bool false], .int .i64 (p : Int)] w fun e w' =>
    e = .returned (.tuple #[.int .i32 (if 0 < p then ((Lib.decodeLastL (s.extract 0 p).data.toList).1 : Int) else B), .int .i32 (if p < s.size then ((Lib.decodeGo (s.extract p s.size)).1 : Int) else C)]) ∧ Kept Nil w w' := by
  have hps : (s.extract 0 p).size ≤ 9223372036854775807 := by rw [extract_size s 0 p hp]; omega
  have cL := hid fun (W : World) (hW : Tabs W) => decodeLast_any (s.extract 0 p) W hps hW
  have cD := hid fun (W : World) (hW : Tabs W) => decode_any (s.extract p s.size) W hW
  have HT := hid hT
  clear hT
  generalize ((Lib.decodeLastL (s.extract 0 p).data.toList).1 : Int) = la at cL ⊢
  generalize ((Lib.decodeLastL (s.extract 0 p).data.toList).2 : Int) = la2 at cL
  generalize ((Lib.decodeGo (s.extract p s.size)).1 : Int) = lb at cD ⊢
  generalize ((Lib.decodeGo (s.extract p s.size)).2 : Int) = lb2 at cD
  obtain ⟨a, HA⟩ : ∃ a, Hid (a = if 0 < p then la else B) := ⟨_, (rfl : _ = _)⟩
  obtain ⟨b, HB⟩ : ∃ b, Hid (b = if p < s.size then lb else C) := ⟨_, (rfl : _ = _)⟩
  rw [← HA.out, ← HB.out]
  go_enter Tryz.func71, Tryz.ntmps71
  go_wp2_with fail
  have c0 : (w.alloc (.cells #[.string s, .int .i64 A, .int .i32 B, .int .i32 C, .bool false] 86)).cell? ⟨w.heap.size, 0, none⟩ = some (.string s) := (Blk.new w _ _).cell 0
  have c2 : (w.alloc (.cells #[.string s, .int .i64 A, .int .i32 B, .int .i32 C, .bool false] 86)).cell? ⟨w.heap.size, 2, none⟩ = some (.int .i32 B) := (Blk.new w _ _).cell 2
  have c3 : (w.alloc (.cells #[.string s, .int .i64 A, .int .i32 B, .int .i32 C, .bool false] 86)).cell? ⟨w.heap.size, 3, none⟩ = some (.int .i32 C) := (Blk.new w _ _).cell 3
  have BB := hid (Blk.new w #[.string s, .int .i64 A, .int .i32 B, .int .i32 C, .bool false] 86)
  have KK : Hid (Kept Nil w (w.alloc (.cells #[.string s, .int .i64 A, .int .i32 B, .int .i32 C, .bool false] 86))) := (Kept.refl Nil w).alloc _
  generalize hW : (w.alloc (.cells #[.string s, .int .i64 A, .int .i32 B, .int .i32 C, .bool false] 86)) = W at *
  clear hW
  go_big_quiet (fail)
  have HT1 := hid (HT.out.keptN (KK.out.drewN nq))
  have K1 := hid (KK.out.drewN nq)
  by_cases h0 : 0 < p
  · have h0' : (0 : Int) < (p : Int) := by omega
    go_wp2_with fail
    refine (cL.out _ HT1.out).mono ?_
    rintro e w2 ⟨rfl, hK2⟩
    have B1 : Blk (W.drewN nq) w.heap.size #[.string s, .int .i64 A, .int .i32 B, .int .i32 C, .bool false] 86 := BB.out
    have d0 : w2.cell? ⟨w.heap.size, 0, none⟩ = some (.string s) := (B1.kept hK2 (fun h => h)).cell 0
    have HT2 := hid (HT1.out.keptN hK2)
    have K2 := hid (K1.out.trans hK2)
    clear hK2 B1
    by_cases h1 : p < s.size
    · have h1' : (p : Int) < (s.size : Int) := by omega
      go_wp2_with fail
      refine (cD.out _ HT2.out).mono ?_
      rintro e w3 ⟨rfl, hK3⟩
      go_wp2_with fail
      go_ret2
      rw [show a = _ from HA.out.trans (if_pos h0), show b = _ from HB.out.trans (if_pos h1)]
      exact ⟨rfl, K2.out.trans hK3⟩
    · have h1' : ¬ (p : Int) < (s.size : Int) := by omega
      go_wp2_with fail
      go_ret2
      rw [show a = _ from HA.out.trans (if_pos h0), show b = _ from HB.out.trans (if_neg h1)]
      exact ⟨rfl, K2.out⟩
  · have h0' : ¬ (0 : Int) < (p : Int) := by omega
    by_cases h1 : p < s.size
    · have h1' : (p : Int) < (s.size : Int) := by omega
      go_wp2_with fail
      refine (cD.out _ HT1.out).mono ?_
      rintro e w3 ⟨rfl, hK3⟩
      go_wp2_with fail
      go_ret2
      rw [show a = _ from HA.out.trans (if_neg h0), show b = _ from HB.out.trans (if_pos h1)]
      exact ⟨rfl, K1.out.trans hK3⟩
    · have h1' : ¬ (p : Int) < (s.size : Int) := by omega
      go_wp2_with fail
      go_ret2
      rw [show a = _ from HA.out.trans (if_neg h0), show b = _ from HB.out.trans (if_neg h1)]
      exact ⟨rfl, K1.out⟩
end Go.Proofs.YtnbfddjaonlmaaaGreatDoor
