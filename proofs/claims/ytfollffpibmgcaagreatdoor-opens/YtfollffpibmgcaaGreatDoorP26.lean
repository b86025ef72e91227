/- The program's machine of a pattern without a fault: New comes back with states in order. The library's sort of runes: it comes back, and turns nothing but the row (how the row is then is not told). -/
import Derived.Test.YtfollffpibmgcaaGreatDoorP14
import Derived.Test.YtfollffpibmgcaaGreatDoorP18
import Derived.Test.YtfollffpibmgcaaGreatDoorP25
import Derived.Test.YtfollffpibmgcaaGreatDoorP04
import Derived.BigGuard
import Derived.BigCall
import Derived.CellFam
import Derived.Deep.Draws
import Derived.Deep.QuietTactic
import Derived.BigQuiet
set_option linter.unusedVariables false
set_option maxRecDepth 100000
namespace Go.Proofs.YtfollffpibmgcaaGreatDoor
open Go.RowKit Go.Maps
set_option maxRecDepth 100000
theorem sizes_eq : ∀ (ts : List PT) (cs : List CT), cs.length = ts.length → (∀ i, (h : i < ts.length) → (h' : i < cs.length) → (cs[i]).sz = (ts[i]).size) → CT.szs cs = PT.sizes ts
 | [], [], _, _ => by simp [CT.szs, PT.sizes]
 | t :: ts, c :: cs, hl, h => by
  have h0 := h 0 (by simp) (by simp)
  have hr := sizes_eq ts cs (by simpa using hl) (fun i h1 h2 => by have := h (i + 1) (by simpa using h1) (by simpa using h2); simpa using this)
  simp only [CT.szs, PT.sizes]
  simp only [List.getElem_cons_zero] at h0
  omega
 | [], c :: cs, hl, _ => by simp at hl
 | t :: ts, [], hl, _ => by simp at hl
theorem PTAt.size_eq {w : World} {lo hi : Nat} {q : Nv} {T : PT} {C : CT} (h : PTAt w lo hi q T C) : C.sz = T.size := by
 induction h with
 | mk q tk pb bs ts cs V S sp fo nt hn hb hc hk hs hsc hr hkind ih =>
  have e := sizes_eq ts cs hn.2.1 (fun i h1 h2 => ih i h1 h2)
  have e2 : (cs.length : Int) = ts.length := by rw [hn.2.1]
  unfold CT.sz PT.size
  rcases hkind with ⟨h1, h2, _⟩ | ⟨h1, h2⟩ | ⟨h1, h2⟩ | ⟨h1, h2⟩ | ⟨h1, h2, _⟩ | ⟨h1, h2⟩ <;> rw [h1, h2, e] <;> simp [e2]
theorem pick_zero {F : Flt} (h : (pick F).1 = 0) : CleanF F ∧ F.big = none := by
 unfold pick at h
 unfold CleanF
 cases h1 : F.rune <;> rw [h1] at h <;> simp only at h
 ·cases h2 : F.form <;> rw [h2] at h <;> simp only at h
  ·cases h3 : F.rep <;> rw [h3] at h <;> simp only at h
   ·cases h4 : F.cls <;> rw [h4] at h <;> simp only at h
    ·cases h5 : F.nam <;> rw [h5] at h <;> simp only at h
     ·cases h6 : F.big <;> rw [h6] at h <;> simp only at h
      ·exact ⟨⟨rfl, rfl, rfl⟩, rfl⟩
      ·omega
     ·omega
    ·omega
   ·omega
  ·omega
 ·omega
theorem note_big {a : Flt} {p : Int} : (a.note 7 p).big ≠ none := by
 cases h : a.big with
 | none => simp [Flt.note, Flt.put, Flt.get, h]
 | some x => simp [Flt.note, Flt.get, h]
theorem fin_clean {g : RG} {s : ByteArray} (h : (pick (finFlt g s)).1 = 0) : CleanF (pWhole g (st0 s)).1.flt ∧ (pWhole g (st0 s)).2.size ≤ 1000 := by
 obtain ⟨h1, h2⟩ := pick_zero h
 unfold finFlt at h1 h2
 by_cases hs : 1000 < (pWhole g (st0 s)).2.size
 ·rw [if_pos hs] at h2
  exact absurd h2 note_big
 ·rw [if_neg hs] at h1
  exact ⟨h1, by omega⟩
theorem Vis.lat_le {M : List MS} {V V' : VS} {s : Int} (h : Vis M V s V') : V'.lat.length + V.ord.length ≤ V.lat.length + V'.ord.length := by
 induction h with
 | had V s v h hv => omega
 | stop V s m hn h hk => simp [VS.put]
 | take V s m hn h hk => simp [VS.put, VS.late]; omega
 | one V V' s m hn h hk hv ih => simp only [VS.put, List.length_append]; omega
 | two V V' V2 s m hn h hk hv hw ih ih' => simp only [VS.put, List.length_append]; omega
theorem Lates.lat_le {M : List MS} {at_ : Nat} {V V' : VS} (h : Lates M at_ V V') : V'.lat.length + V.ord.length ≤ V.lat.length + V'.ord.length := by
 induction h with
 | done a V h => omega
 | step a V V' V2 t h hv hl ih => have := hv.lat_le; omega
def McAt (w : World) (lo hi base : Nat) (v : Value) (ms : List MS) : Prop := ∃ ws : List Sv, w.ownsRow base 108 6 v ms.length (flatS ws) ∧ ws.length = ms.length ∧ ∀ i, (h : i < ws.length) → (h' : i < ms.length) → SvAt w lo hi ws[i] ms[i]
theorem McAt.kept {w w' : World} {lo hi base : Nat} {v : Value} {ms : List MS} {K : Nat → Prop} (h : McAt w lo hi base v ms) (k : Kept K w w') (h1 : ∀ i, lo ≤ i → i < hi → ¬ K i) (h2 : ∀ i, v.ownBlock = some i → ¬ K i) (hle : hi ≤ w.heap.size) : McAt w' lo hi base v ms := by
 obtain ⟨ws, a1, a2, a3⟩ := h
 exact ⟨ws, ownsRow_kept a1 k h2, a2, fun i b1 b2 => (a3 i b1 b2).kept k h1 hle⟩
structure MOrd (C : CT) (V : VS) (j : Nat) : Prop where
 first : (built C).2.2 = j
 lates : Lates (built C).1 0 (VS.first (built C).1.length j) V
 inv : ∃ R, VInv (built C).1 R V ∧ Shut (built C).1 R ∧ R j
 all : AllOk (built C).1
 num : ∀ t, (t = j ∨ ∃ (s : Nat) (m : MS), s ∈ V.ord ∧ (built C).1[s]? = some m ∧ m.kind = 1 ∧ t = m.next.toNat) → ∃ u : Nat, V.num[t]? = some (u : Int)
theorem MOrd.exists {C : CT} (h : C.ok) (hs : C.sz ≤ 1000) : ∃ V j, MOrd C V j ∧ (built C).1.length ≤ 4001 ∧ 1 ≤ (built C).1.length := by
 obtain ⟨R, h1, ⟨j, h2, h3⟩, h4, h5, h6⟩ := built_shut h hs
 obtain ⟨V, v1, v2, v3⟩ := order_is h1 h3
 exact ⟨V, j, ⟨h2, v1, ⟨R, v2, h1, h3⟩, h4, v3⟩, h6, h5⟩
theorem MOrd.ords {C : CT} {V : VS} {j : Nat} (h : MOrd C V j) : V.ord.length ≤ (built C).1.length ∧ V.lat.length ≤ (built C).1.length + 1 ∧ (∀ s ∈ V.ord, s < (built C).1.length) ∧ j < (built C).1.length ∧ V.num.length = (built C).1.length := by
 obtain ⟨R, h1, h2, h3⟩ := h.inv
 have a := h1.ord_few
 have b := h.lates.lat_le
 simp only [VS.first, List.length_cons, List.length_nil] at b
 refine ⟨a, by omega, fun s hs => ?_, ?_, h1.len⟩
 ·obtain ⟨k, hk, hs'⟩ := List.getElem_of_mem hs
  have := h1.at_ k s (by rw [List.getElem?_eq_getElem hk, hs'])
  have := (List.getElem?_eq_some_iff.1 this).1
  rw [h1.len] at this
  exact this
 ·obtain ⟨m, hm, _⟩ := h2.cl j h3
  exact (List.getElem?_eq_some_iff.1 hm).1
theorem MOrd.start {C : CT} {V : VS} {j : Nat} (h : MOrd C V j) : ∃ u : Nat, V.num.getD j 0 = (u : Int) ∧ u < V.ord.length := by
 obtain ⟨u, hu⟩ := h.num j (Or.inl rfl)
 obtain ⟨R, h1, _⟩ := h.inv
 obtain ⟨k, hk, hk2⟩ := h1.has j u hu (by omega)
 have e : k = u := by omega
 subst e
 exact ⟨k, by rw [List.getD_eq_getElem?_getD, hu]; rfl, (List.getElem?_eq_some_iff.1 hk2).1⟩
theorem BdAt.sts {w : World} {b lo hi : Nat} {v : Value} {st : List MS} (h : BdAt w b lo hi v st) (hne : st ≠ []) : ∃ g c vs, v = .slice (some ⟨g, 0, none⟩) st.length c ∧ StsAt w g vs st ∧ ∀ i, (h : i < vs.length) → (h' : i < st.length) → SvAt w lo hi vs[i] st[i] := by
 obtain ⟨vs, h1, h2, h3⟩ := h.row
 obtain ⟨hx, h1'⟩ := h1
 rcases h1' with ⟨_, h0⟩ | ⟨g, cap, cur, rfl, a1, a2, a3, a4, a5, a6⟩
 ·exact absurd (List.length_eq_zero_iff.1 h0) hne
 ·refine ⟨g, cap, vs, rfl, ⟨h2, fun i hi' j hj => ?_, (Array.getElem?_eq_some_iff.1 a2).1, fun i b1 b2 => ⟨(h3 i b1 b2).k, (h3 i b1 b2).nx, (h3 i b1 b2).ot⟩⟩, h3⟩
  have hf := flatS_get vs i (by omega) j hj
  rw [← hf, ← a6, List.getElem?_take_of_lt (by omega)]
  simp only [World.cell?, a2]
  simp
theorem moved_of (W : World) (p q : Int) : (Instr.field 110 (.agg #[.int .i64 p, .int .i64 q]) 1).run Tryz.prog W = .ok (.int .i64 q) W := by
 simp [Instr.field, asAgg, go_sem]
theorem McAt.block {w : World} {lo hi base : Nat} {v : Value} {ms : List MS} (h : McAt w lo hi base v ms) {i : Nat} (hi' : v.ownBlock = some i) : base ≤ i ∧ i < w.heap.size := by
 obtain ⟨ws, a1, _⟩ := h
 exact ownsRow_block a1 hi'
theorem mach_ret {f : Func} {Q : Ending → World → Prop} {a : Act} {W : World} {c i : Nat} {v : Value} {p q : Int} (hres : f.results = #[ResultVar.cell i 65]) (hslot : a.tmps.getD i undef = .pointer (some ⟨c, 0, none⟩)) (hd : a.defers = [])
  (hb : Blk W c #[v, .int .i64 p, .int .i64 q] 65) (hQ : Q (.returned (.agg #[v, .int .i64 p, .int .i64 q])) W) (hv : ∃ ao n k, v = .slice ao n k := by exact ⟨_, _, _, rfl⟩) : bodyPost Tryz.prog f Q Exit.ret a W := by
 have r0 : W.cell? ⟨c, 0, none⟩ = some v := hb.cell 0
 have r1 : W.cell? ⟨c, 1, none⟩ = some (.int .i64 p) := hb.cell 1
 have r2 : W.cell? ⟨c, 2, none⟩ = some (.int .i64 q) := hb.cell 2
 have hs2 : a.tmps[i]?.getD undef = .pointer (some ⟨c, 0, none⟩) := by simpa using hslot
 obtain ⟨ao, n, k, rfl⟩ := hv
 exact bodyPost_ret (v := .agg #[.slice ao n k, .int .i64 p, .int .i64 q]) (by simp [results, hres, go_sem, hs2, r0, r1, r2]) hd hQ
set_option maxHeartbeats 4000000 in
theorem New_rd {w : World} {lo hi : Nat} {q : Nv} {T : PT} {C : CT} (hP : PTAt w lo hi q T C) (hle : hi ≤ w.heap.size) (hok : C.ok) (hsz : C.sz ≤ 1000) (x : Int) (y : Option Nat) :
  Calls Tryz.prog 17 #[patVal q x y] w fun e w' => ∃ (v' : Value) (V : VS) (j : Nat), e = .returned (.agg #[v', .int .i64 (V.num.getD j 0), .int .i64 x]) ∧ Kept Nil w w' ∧ MOrd C V j ∧ McAt w' lo hi w.heap.size v' (sorted (built C).1 V) ∧ (built C).1.length ≤ 4001 := by
 obtain ⟨V, j, hMO, hlen, hlen1⟩ := MOrd.exists hok hsz
 obtain ⟨o1, o2, o3, o4, o5⟩ := hMO.ords
 have hbs := bPiece_bs C hok hsz
 have hnn := CT.sz_nonneg C hok
 have hx0 : XOk [zeroS].length (0, 0) := by unfold XOk; simp
 have PO := hid (hP.pcok (b := w.heap.size + 1 + 1) hok hsz)
 have kA : Kept Nil w ((w.alloc (.cells (patCells q x y) 59)).alloc (.cells #[.slice none 0 0, .int .i64 0, .int .i64 0] 65)) := ((Kept.refl Nil w).alloc _).alloc _
 have kB : Kept Nil w (((w.alloc (.cells (patCells q x y) 59)).alloc (.cells #[.slice none 0 0, .int .i64 0, .int .i64 0] 65)).alloc (.cells #[.slice none 0 0] 104)) := kA.alloc _
 have hB0 : BdAt (((w.alloc (.cells (patCells q x y) 59)).alloc (.cells #[.slice none 0 0, .int .i64 0, .int .i64 0] 65)).alloc (.cells #[.slice none 0 0] 104)) (w.heap.size + 1 + 1) lo hi (.slice none 0 0) [] :=
  ⟨by have := Blk.new ((w.alloc (.cells (patCells q x y) 59)).alloc (.cells #[.slice none 0 0, .int .i64 0, .int .i64 0] 65)) #[.slice none 0 0] 104; simpa using this, ⟨[], World.ownsRow_nil _ _ _ _, rfl, fun i h => by simp at h⟩, by omega, by simp⟩
 have F1 := add_rd hB0 (SvAt.zero _ lo hi) (by simp)
 simp only [Sv.val, Sv.cells] at F1
 have F1 := hid F1
 have LB0 : Loc (((w.alloc (.cells (patCells q x y) 59)).alloc (.cells #[.slice none 0 0, .int .i64 0, .int .i64 0] 65)).alloc (.cells #[.slice none 0 0] 104)) (w.heap.size + 1 + 1) (.slice none 0 0) w.heap.size (patCells q x y) 59 :=
  ⟨((Blk.new w (patCells q x y) 59).alloc _).alloc _, fun hx => by rcases hx with hx | hx; (· omega); (· cases hx)⟩
 have LB1 : Loc (((w.alloc (.cells (patCells q x y) 59)).alloc (.cells #[.slice none 0 0, .int .i64 0, .int .i64 0] 65)).alloc (.cells #[.slice none 0 0] 104)) (w.heap.size + 1 + 1) (.slice none 0 0) (w.heap.size + 1) #[.slice none 0 0, .int .i64 0, .int .i64 0] 65 :=
  ⟨by have := (Blk.new (w.alloc (.cells (patCells q x y) 59)) #[.slice none 0 0, .int .i64 0, .int .i64 0] 65).alloc (.cells #[.slice none 0 0] 104); simpa using this, fun hx => by rcases hx with hx | hx; (· omega); (· cases hx)⟩
 have PK := hid (And.intro LB0 (And.intro LB1 (And.intro kB hB0)))
 have HMO := hid hMO
 have HO3 := hid o3
 clear kA kB hB0 LB0 LB1 hP hMO o3 hbs
 simp only [patVal]
 simp only [patCells] at *
 go_enter Tryz.func17, Tryz.ntmps17
 go_wp2_with fail
 refine (F1.out).mono ?_
 rintro e w3 ⟨rfl, v3, h3, k3⟩
 obtain ⟨LB0, LB1, kB, hB0⟩ := PK.out
 have m0 := LB0.went k3
 have m1 := LB1.went k3
 have b0 : Blk w3 w.heap.size (patCells q x y) 59 := m0.blk
 obtain ⟨t0, t1, t2, t3, t4, t5, t6, t7, t8, t9⟩ := b0.ten
 have S0 : Sames lo hi w (((w.alloc (.cells (patCells q x y) 59)).alloc (.cells #[.slice none 0 0, .int .i64 0, .int .i64 0] 65)).alloc (.cells #[.slice none 0 0] 104)) := fun i _ h2 => kB.block i (by omega) (fun hx => hx)
 have S3 := S0.went hB0 k3
 have F2 := PO.out w3 v3 [zeroS] (0, 0) h3 hx0 S3 (by simp; omega)
 simp only [Nv.val, Nv.cells, exV] at F2
 have F2 := hid F2
 have W3 : Kept Nil w w3 := kB.nil_of k3.kept (fun i hi' => by have := hB0.own hi'; omega)
 have PK2 := hid (And.intro m0 (And.intro m1 (And.intro W3 h3)))
 have hsz3 := k3.kept.size
 have hb3 := h3.blk.lt
 clear LB0 LB1 kB hB0 m0 m1 b0 S0 S3 h3 k3 F1 PK W3 t8 t9
 go_wp2_with fail
 refine (F2.out).mono ?_
 rintro e w4 ⟨rfl, v4, h4, k4⟩
 obtain ⟨m0, m1, W3, h3⟩ := PK2.out
 have n0 := m0.went k4
 have n1 := m1.went k4
 have W4 : Kept Nil w w4 := W3.nil_of k4.kept (fun i hi' => by have := h3.own hi'; omega)
 obtain ⟨g, c, vs, hv4, hsts, hsv⟩ := h4.sts (by intro e; have : (built C).1.length = 0 := by rw [show (built C).1 = [] from e]; rfl
                                                 omega)
 subst hv4
 have c4 : w4.cell? ⟨w.heap.size + 1 + 1, 0, none⟩ = some (.slice (some ⟨g, 0, none⟩) (built C).1.length c) := h4.blk.cell 0
 have hfst := HMO.out.first
 have hszw := W4.size
 have F3 := inOrder_rd (c := c) (lo := lo) (hi := hi) (start := j) (VF := V) hsts hsv (by omega) HMO.out.all hlen HMO.out.lates (by omega) (by omega) HO3.out o4
 have F3 := hid F3
 have hmv := moved_of w4 (bPiece C [zeroS] (0, 0)).2.1 (bPiece C [zeroS] (0, 0)).2.2
 have hfst' : (bPiece C [zeroS] (0, 0)).2.2 = (j : Int) := hfst
 rw [hfst'] at hmv
 simp only
 rw [hfst']
 have b0 : Blk w4 w.heap.size (patCells q x y) 59 := n0.blk
 have PK3 := hid (And.intro n0.blk (And.intro n1.blk W4))
 have hb4 := h4.blk.lt
 clear m0 m1 W3 h3 n0 n1 W4 hsts hsv h4 k4 F2 PK2 b0 hfst hfst'
 go_wp2_with fail
 refine (F3.out).mono ?_
 rintro e w5 ⟨v', ws, rfl, k5, r1, r2, r3⟩
 obtain ⟨n0, n1, W4⟩ := PK3.out
 have p0 := n0.kept k5 (fun hx => hx)
 have p1 := n1.kept k5 (fun hx => hx)
 have c8 : w5.cell? ⟨w.heap.size, 8, none⟩ = some (.int .i64 x) := p0.cell 8
 have q0 : w5.cell? ⟨w.heap.size + 1, 0, none⟩ = some (.slice none 0 0) := p1.cell 0
 have q1 : w5.cell? ⟨w.heap.size + 1, 1, none⟩ = some (.int .i64 0) := p1.cell 1
 have q2 : w5.cell? ⟨w.heap.size + 1, 2, none⟩ = some (.int .i64 0) := p1.cell 2
 have g0 : w5.frozen? ⟨w.heap.size + 1, 0, none⟩ = false := p1.frozen 0
 have g1 : w5.frozen? ⟨w.heap.size + 1, 1, none⟩ = false := p1.frozen 1
 have g2 : w5.frozen? ⟨w.heap.size + 1, 2, none⟩ = false := p1.frozen 2
 obtain ⟨aov, cv, rfl⟩ := ownsRow_slice r1
 have s5 := k5.size
 have MC : McAt w5 lo hi w4.heap.size (.slice aov V.ord.length cv) (sorted (built C).1 V) := ⟨ws, by simpa [sorted] using r1, by simpa [sorted] using r2, r3⟩
 have FIN : Hid (Kept Nil w w5 ∧ McAt w5 lo hi w4.heap.size (.slice aov V.ord.length cv) (sorted (built C).1 V) ∧ Blk w5 (w.heap.size + 1) #[.slice none 0 0, .int .i64 0, .int .i64 0] 65) := ⟨W4.trans k5, MC, p1⟩
 generalize hu : V.num.getD j 0 = u at *
 have HU := hid hu
 clear n0 n1 W4 p0 p1 r1 r2 r3 k5 F3 PK3 MC hu
 go_wp2_with fail
 obtain ⟨f1, f2, f3⟩ := FIN.out
 have B3 := ((f3.setCell 0 (.slice aov V.ord.length cv)).setCell 1 (.int .i64 u)).setCell 2 (.int .i64 x)
 have k8 : Kept (fun i => i = w.heap.size + 1) w5 (((w5.setCell ⟨w.heap.size + 1, 0, none⟩ (.slice aov V.ord.length cv)).setCell ⟨w.heap.size + 1, 1, none⟩ (.int .i64 u)).setCell ⟨w.heap.size + 1, 2, none⟩ (.int .i64 x)) :=
  (((Kept.refl (fun i => i = w.heap.size + 1) w5).setCell (p := ⟨w.heap.size + 1, 0, none⟩) (Or.inl rfl) _).setCell (p := ⟨w.heap.size + 1, 1, none⟩) (Or.inl rfl) _).setCell (p := ⟨w.heap.size + 1, 2, none⟩) (Or.inl rfl) _
 refine mach_ret Tryz.results17 rfl rfl B3 ⟨_, V, j, by rw [HU.out], f1.nil_of k8 (fun i hi' => by omega), HMO.out, ?_, hlen⟩
 have f2' := f2.kept k8 (fun i _ h2 e => by omega) (fun i hi' e => by have := f2.block hi'; omega) (by omega)
 obtain ⟨ws', g1', g2', g3'⟩ := f2'
 exact ⟨ws', own32_base g1' (by omega), g2', g3'⟩
end Go.Proofs.YtfollffpibmgcaaGreatDoor
namespace Go.Proofs.YtfollffpibmgcaaGreatDoor
open Go.RowKit
def RowOk (w : World) (g off n sz : Nat) : Prop := ∃ cur : Array Value, w.heap[g]? = some (.cells cur 21 (0, 0)) ∧ cur.size = sz ∧ off + n ≤ sz ∧ ∀ t, t < n → ∃ r : Int, cur[off + t]? = some (.int .i32 r)
theorem RowOk.fam {w : World} {g off n sz : Nat} (h : RowOk w g off n sz) : ∃ G : Nat → Int, (∀ t, t < n → w.cell? ⟨g, off + t, none⟩ = some (.int .i32 (G t))) ∧ ∀ t, t < n → w.frozen? ⟨g, off + t, none⟩ = false := by
 obtain ⟨cur, h1, h2, h3, h4⟩ := h
 refine ⟨fun t => match cur[off + t]? with | some (.int _ r) => r | _ => 0, fun t ht => ?_, fun t ht => by simp [World.frozen?, h1]⟩
 obtain ⟨r, hr⟩ := h4 t ht
 simp only [World.cell?, h1]
 simp [hr]
theorem RowOk.lt {w : World} {g off n sz : Nat} (h : RowOk w g off n sz) : g < w.heap.size := by
 obtain ⟨cur, h1, _⟩ := h
 exact (Array.getElem?_eq_some_iff.1 h1).1
theorem RowOk.put {w : World} {g off n sz : Nat} (h : RowOk w g off n sz) {t : Nat} (ht : t < n) (r : Int) : RowOk (w.setCell ⟨g, off + t, none⟩ (.int .i32 r)) g off n sz := by
 obtain ⟨cur, h1, h2, h3, h4⟩ := h
 refine ⟨cur.setIfInBounds (off + t) (.int .i32 r), ?_, by simpa using h2, h3, fun s hs => ?_⟩
 ·simp only [World.setCell, Array.getElem?_modify]
  simp [h1]
 ·by_cases e : s = t
  ·subst e
   exact ⟨r, by rw [Array.getElem?_setIfInBounds_self_of_lt (by omega)]⟩
  ·obtain ⟨q, hq⟩ := h4 s hs
   exact ⟨q, by rw [Array.getElem?_setIfInBounds_ne (by omega)]; exact hq⟩
theorem RowOk.kept {w w' : World} {g off n sz : Nat} {K : Nat → Prop} (h : RowOk w g off n sz) (k : Kept K w w') (hg : ¬ K g) : RowOk w' g off n sz := by
 have hl := h.lt
 obtain ⟨cur, h1, h2⟩ := h
 exact ⟨cur, (k.block g hl hg).trans h1, h2⟩
structure RwP (w : World) (g off n sz : Nat) (w' : World) : Prop where
 row : RowOk w' g off n sz
 kept : Kept (fun i => i = g) w w'
theorem RwP.refl {w : World} {g off n sz : Nat} (h : RowOk w g off n sz) : RwP w g off n sz w := ⟨h, Kept.refl _ _⟩
theorem RwP.trans {w w1 w2 : World} {g off n sz : Nat} (h : RwP w g off n sz w1) (k : RwP w1 g off n sz w2) : RwP w g off n sz w2 := ⟨k.row, h.kept.trans k.kept⟩
theorem RwP.drewN {w w1 : World} {g off n sz : Nat} (h : RwP w g off n sz w1) (q : Nat) : RwP w g off n sz (w1.drewN q) := ⟨h.row, h.kept.drewN q⟩
theorem RwP.drew {w w1 : World} {g off n sz : Nat} (h : RwP w g off n sz w1) : RwP w g off n sz w1.drew := ⟨h.row, h.kept.drew⟩
theorem RwP.put {w w1 : World} {g off n sz : Nat} (h : RwP w g off n sz w1) {t : Nat} (ht : t < n) (r : Int) : RwP w g off n sz (w1.setCell ⟨g, off + t, none⟩ (.int .i32 r)) := ⟨h.row.put ht r, h.kept.setCell (p := ⟨g, off + t, none⟩) (Or.inl rfl) _⟩
theorem hid0 {p : Prop} (h : p) : Hid p := h
def intOf0 : Value → Int | .int _ q => q | _ => 0
theorem less_any (x y : Int) (W : World) : Calls Tryz.prog 154 #[.int .i32 x, .int .i32 y] W fun e w' => e = .returned (.bool (decide (x < y))) ∧ w' = W := by
 go_enter Tryz.func154, Tryz.ntmps154
 go_wp2_with (first | (go_at_call 183; refine (isNaN_any _ _).mono ?_; rintro e w' ⟨rfl, rfl⟩) | fail)
 go_ret
 exact ⟨rfl, rfl⟩
set_option maxHeartbeats 1000000 in
theorem ins_any {w : World} {g off n sz cap a b : Nat} (hR : RowOk w g off n sz) (hab : a ≤ b) (hb : b ≤ n) (hn : n < 4611686018427387904) :
  Calls Tryz.prog 148 #[.slice (some ⟨g, off, none⟩) n cap, .int .i64 (a : Int), .int .i64 (b : Int)] w fun e w' => e = .returned (.tuple #[]) ∧ RwP w g off n sz w' := by
 go_enter Tryz.func148, Tryz.ntmps148
 go_wp2_with fail
 go_loopw [6] (fun vi wr => ∃ i : Nat, vi = .int .i64 (i : Int) ∧ a < i ∧ i ≤ b + 1 ∧ Hid (RwP w g off n sz wr)) (fun vi _ => b + 1 - (intOf0 vi).toNat)
 case atStart => exact ⟨a + 1, by go_num, by omega, by omega, RwP.refl hR⟩
 case round =>
  obtain ⟨i, rfl, hai, hib, HW⟩ := hrel
  clear hR
  go_wp2_with fail
  ·have hlt : i < b := by assumption
   go_loopw [7] (fun vj wr2 => ∃ j : Nat, vj = .int .i64 (j : Int) ∧ a ≤ j ∧ j ≤ i ∧ Hid (RwP w g off n sz wr2)) (fun vj _ => (intOf0 vj).toNat)
   case atStart => exact ⟨i, rfl, by omega, Nat.le_refl _, HW⟩
   case round =>
    obtain ⟨j, rfl, haj, hji, HW2⟩ := hrel
    clear HW
    obtain ⟨G, hcw, hfw⟩ := HW2.out.row.fam
    go_wp2_with fail
    by_cases hja : a < j
    ·go_quiet (first | (go_at_call 154; refine Calls.quiet_of_same (less_any _ _ _)))
     go_wp2_with fail
     ·go_region
      all_goals go_wp2_with fail
      go_roundw
      case rel => exact ⟨j - 1, by congr 1; omega, by omega, by omega, ((HW2.out.drewN _).put (by omega) _).put (by omega) _⟩
      case measure => simp [intOf0]; omega
     ·go_roundw
      case rel => exact ⟨i + 1, by go_num, by omega, by omega, HW2.out.drewN _⟩
      case measure => simp [intOf0]; omega
    ·go_quiet (first | (go_at_call 154; refine Calls.quiet_of_same (less_any _ _ _)))
     go_wp2_with fail
     go_roundw
     case rel => exact ⟨i + 1, by go_num, by omega, by omega, HW2.out.drewN _⟩
     case measure => simp [intOf0]; omega
  ·go_end0
   exact ⟨rfl, HW.out⟩
set_option maxHeartbeats 1000000 in
theorem rev_any {w : World} {g off n sz cap a b : Nat} (hR : RowOk w g off n sz) (hab : a < b) (hb : b ≤ n) (hn : n < 4611686018427387904) :
  Calls Tryz.prog 152 #[.slice (some ⟨g, off, none⟩) n cap, .int .i64 (a : Int), .int .i64 (b : Int)] w fun e w' => e = .returned (.tuple #[]) ∧ RwP w g off n sz w' := by
 go_enter Tryz.func152, Tryz.ntmps152
 go_wp2_with fail
 go_loopw [6, 7] (fun vi vj wr => ∃ i j : Nat, vi = .int .i64 (i : Int) ∧ vj = .int .i64 (j : Int) ∧ i < n ∧ j < n ∧ Hid (RwP w g off n sz wr)) (fun _ vj _ => (intOf0 vj).toNat)
 case atStart => exact ⟨a, b - 1, rfl, by congr 1; omega, by omega, by omega, RwP.refl hR⟩
 case round =>
  obtain ⟨i, j, rfl, rfl, hi, hj, HW⟩ := hrel
  clear hR
  obtain ⟨G, hcw, hfw⟩ := HW.out.row.fam
  go_wp2_with fail
  ·go_region
   all_goals go_wp2_with fail
   go_roundw
   case rel => exact ⟨i + 1, j - 1, by go_num, by congr 1; omega, by omega, by omega, ((HW.out.drew).put (by omega) _).put (by omega) _⟩
   case measure => simp [intOf0]; omega
  ·go_end0
   exact ⟨rfl, HW.out⟩
structure SwP (w : World) (s m : Nat) (w' : World) (m' : Nat) : Prop where
 blk : Blk w' s #[.int .i64 (m' : Int)] 3
 kept : Kept (fun i => i = s) w w'
theorem SwP.row {w w' : World} {s m m' g off n sz : Nat} (h : SwP w s m w' m') (hR : RowOk w g off n sz) (hne : g ≠ s) : RowOk w' g off n sz := hR.kept h.kept hne
set_option maxHeartbeats 1000000 in
theorem order2_any {w : World} {g off n sz cap a b s m : Nat} (hR : RowOk w g off n sz) (hS : Blk w s #[.int .i64 (m : Int)] 3) (ha : a < n) (hb : b < n) (hm : m ≤ 100) (hn : n < 4611686018427387904) :
  Calls Tryz.prog 206 #[.slice (some ⟨g, off, none⟩) n cap, .int .i64 (a : Int), .int .i64 (b : Int), .pointer (some ⟨s, 0, none⟩)] w fun e w' => ∃ x y m' : Nat, e = .returned (.tuple #[.int .i64 (x : Int), .int .i64 (y : Int)]) ∧ (x = a ∧ y = b ∨ x = b ∧ y = a) ∧ m' ≤ m + 1 ∧ SwP w s m w' m' := by
 obtain ⟨G, hcw, hfw⟩ := hR.fam
 have c0 : w.cell? ⟨s, 0, none⟩ = some (.int .i64 (m : Int)) := hS.cell 0
 have f0 : w.frozen? ⟨s, 0, none⟩ = false := hS.frozen 0
 have hsl := hS.lt
 have HS := hid0 hS
 clear hS hR
 go_enter Tryz.func206, Tryz.ntmps206
 go_wp2_with fail
 go_quiet (first | (go_at_call 154; refine Calls.quiet_of_same (less_any _ _ _)))
 go_wp2_with fail
 ·go_ret2
  refine ⟨b, a, m + 1, rfl, Or.inr ⟨rfl, rfl⟩, Nat.le_refl _, ?_, ?_⟩
  ·have := Blk.setCell (w := w.drewN nq) (b := s) (cs := #[.int .i64 (m : Int)]) (t := 3) HS.out 0 (.int .i64 ((m : Int) + 1))
   simpa using this
  ·exact ((Kept.refl (fun i => i = s) w).drewN _).setCell (p := ⟨s, 0, none⟩) (Or.inl rfl) _
 ·go_ret2
  exact ⟨a, b, m, rfl, Or.inl ⟨rfl, rfl⟩, by omega, HS.out, (Kept.refl (fun i => i = s) w).drewN _⟩
set_option maxHeartbeats 1000000 in
theorem med_any {w : World} {g off n sz cap a b c s m : Nat} (hR : RowOk w g off n sz) (hS : Blk w s #[.int .i64 (m : Int)] 3) (hgs : g ≠ s) (ha : a < n) (hb : b < n) (hc : c < n) (hm : m ≤ 50) (hn : n < 4611686018427387904) :
  Calls Tryz.prog 188 #[.slice (some ⟨g, off, none⟩) n cap, .int .i64 (a : Int), .int .i64 (b : Int), .int .i64 (c : Int), .pointer (some ⟨s, 0, none⟩)] w fun e w' => ∃ x m' : Nat, e = .returned (.int .i64 (x : Int)) ∧ (x = a ∨ x = b ∨ x = c) ∧ m' ≤ m + 3 ∧ SwP w s m w' m' := by
 go_enter Tryz.func188, Tryz.ntmps188
 go_wp2_with fail
 refine (order2_any hR hS ha hb (by omega) hn).mono ?_
 rintro e w1 ⟨x1, y1, m1, rfl, hxy1, hm1, P1⟩
 have R1 := P1.row hR hgs
 clear hR hS
 go_wp2_with fail
 refine (order2_any R1 P1.blk (show y1 < n by omega) hc (by omega) hn).mono ?_
 rintro e w2 ⟨x2, y2, m2, rfl, hxy2, hm2, P2⟩
 have R2 := P2.row R1 hgs
 go_wp2_with fail
 refine (order2_any R2 P2.blk (show x1 < n by omega) (show x2 < n by omega) (by omega) hn).mono ?_
 rintro e w3 ⟨x3, y3, m3, rfl, hxy3, hm3, P3⟩
 clear R1 R2
 go_wp2_with fail
 go_ret
 exact ⟨y3, m3, rfl, by omega, by omega, P3.blk, (P1.kept.trans P2.kept).trans P3.kept⟩
theorem medadj_any {w : World} {g off n sz cap a s m : Nat} (hR : RowOk w g off n sz) (hS : Blk w s #[.int .i64 (m : Int)] 3) (hgs : g ≠ s) (ha : 1 ≤ a ∧ a + 1 < n) (hm : m ≤ 50) (hn : n < 4611686018427387904) :
  Calls Tryz.prog 187 #[.slice (some ⟨g, off, none⟩) n cap, .int .i64 (a : Int), .pointer (some ⟨s, 0, none⟩)] w fun e w' => ∃ x m' : Nat, e = .returned (.int .i64 (x : Int)) ∧ (a - 1 ≤ x ∧ x ≤ a + 1) ∧ m' ≤ m + 3 ∧ SwP w s m w' m' := by
 have F := med_any (cap := cap) hR hS hgs (show a - 1 < n by omega) (show a < n by omega) (show a + 1 < n by omega) hm hn
 have e1 : ((a - 1 : Nat) : Int) = (a : Int) - 1 := by omega
 have e2 : ((a + 1 : Nat) : Int) = (a : Int) + 1 := by omega
 rw [e1, e2] at F
 have F := hid0 F
 clear hR hS e1 e2
 go_enter Tryz.func187, Tryz.ntmps187
 go_wp2_with fail
 refine (F.out).mono ?_
 rintro e w1 ⟨x, m', rfl, hx, hm', P⟩
 go_wp2_with fail
 go_ret
 exact ⟨x, m', rfl, by omega, hm', P⟩
end Go.Proofs.YtfollffpibmgcaaGreatDoor
