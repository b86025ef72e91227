/- The builder's options: the part once for each time that it may be left out. The builder's loop: a part as often as it can be. -/
import Derived.Test.YtnbfddjaonlmaaaGreatDoorP19
set_option linter.unusedVariables false
set_option maxRecDepth 100000
namespace Go.Proofs.YtnbfddjaonlmaaaGreatDoor
open Go.RowKit Go.Maps
set_option maxRecDepth 100000

theorem Loc.eight {w : World} {b c : Nat} {v : Value} {q : Nv} {t : TypeId} (h : Loc w b v c q.cells t) :
    w.cell? ⟨c, 0, none⟩ = some (.int .i64 q.k) ∧ w.cell? ⟨c, 1, none⟩ = some (.slice q.pa q.pn q.pc) ∧ w.cell? ⟨c, 2, none⟩ = some (.slice q.sa q.sn q.sc) ∧ w.cell? ⟨c, 3, none⟩ = some (.int .i64 q.ed) ∧ w.cell? ⟨c, 4, none⟩ = some (.int .i64 q.gr) ∧ w.cell? ⟨c, 5, none⟩ = some (.int .i64 q.lo) ∧ w.cell? ⟨c, 6, none⟩ = some (.int .i64 q.hi) ∧ w.cell? ⟨c, 7, none⟩ = some (.bool q.lz) := h.blk.eight

/-- what a round of a loop over the part reads: the node's part and the part itself -/
def RdS (w' : World) (B0 pb : Nat) (q N : Nv) : Prop :=
  (w'.cell? ⟨B0, 1, none⟩ = some (.slice (some ⟨pb, 0, none⟩) 1 q.pc) ∧ w'.cell? ⟨B0, 7, none⟩ = some (.bool q.lz)) ∧
  (w'.cell? ⟨pb, 0, none⟩ = some (.int .i64 N.k) ∧ w'.cell? ⟨pb, 1, none⟩ = some (.slice N.pa N.pn N.pc) ∧ w'.cell? ⟨pb, 2, none⟩ = some (.slice N.sa N.sn N.sc) ∧ w'.cell? ⟨pb, 3, none⟩ = some (.int .i64 N.ed)) ∧
    w'.cell? ⟨pb, 4, none⟩ = some (.int .i64 N.gr) ∧ w'.cell? ⟨pb, 5, none⟩ = some (.int .i64 N.lo) ∧ w'.cell? ⟨pb, 6, none⟩ = some (.int .i64 N.hi) ∧ w'.cell? ⟨pb, 7, none⟩ = some (.bool N.lz)
theorem RdS.of {w : World} {b B0 pb : Nat} {v : Value} {q N : Nv} {t : TypeId} (h : Loc w b v B0 q.cells t) (hpa : q.pa = some ⟨pb, 0, none⟩) (hpn : q.pn = 1) (hK : KidAt w pb 0 N) : RdS w B0 pb q N := by
  obtain ⟨_, e1, _, _, _, _, _, e7⟩ := h.eight
  rw [hpa, hpn] at e1
  exact ⟨⟨e1, e7⟩, hK.zero⟩
/-- all that the region of a round reads -/
def OptS (w : World) (pb : Nat) (q N : Nv) (x1 x2 a1 a2 : Int) (w' : World) : Prop :=
  RdS w' w.heap.size pb q N ∧ (w'.cell? ⟨w.heap.size + 1, 0, none⟩ = some (.int .i64 x1) ∧ w'.cell? ⟨w.heap.size + 1, 1, none⟩ = some (.int .i64 x2)) ∧ w'.cell? ⟨w.heap.size + 1 + 1 + 1, 0, none⟩ = some (.int .i64 a1) ∧ w'.cell? ⟨w.heap.size + 1 + 1 + 1, 1, none⟩ = some (.int .i64 a2)

theorem OptS.of {w W : World} {b pb : Nat} {v : Value} {q N : Nv} {x1 x2 a1 a2 : Int} {t t' : TypeId} (h0 : Loc W b v w.heap.size q.cells t) (h1 : Loc W b v (w.heap.size + 1) #[.int .i64 x1, .int .i64 x2] t') (h3 : Loc W b v (w.heap.size + 1 + 1 + 1) #[.int .i64 a1, .int .i64 a2] t') (hpa : q.pa = some ⟨pb, 0, none⟩) (hpn : q.pn = 1) (hK : KidAt W pb 0 N) : OptS w pb q N x1 x2 a1 a2 W :=
  ⟨RdS.of h0 hpa hpn hK, ⟨h1.two.1, h1.two.2.1⟩, h3.two.1, h3.two.2.1⟩

set_option maxHeartbeats 4000000 in
theorem options_rd {w0 w : World} {b lo hi pb : Nat} {v : Value} {st : List MS} {q N : Nv} {C : CT} (h : BdAt w b lo hi v st) (x : Ex) (hx : XOk st.length x) (hS : Sames lo hi w0 w) (hok : C.ok) (hsz : 0 < (q.hi - q.lo).toNat → C.sz ≤ 1000) (hP : 0 < (q.hi - q.lo).toNat → PcOk b lo hi w0 N C)
    (hpa : q.pa = some ⟨pb, 0, none⟩) (hpn : q.pn = 1) (hpb : lo ≤ pb ∧ pb < hi) (hK : KidAt w0 pb 0 N) (hr : (0 ≤ q.lo ∧ q.lo ≤ 20) ∧ (0 ≤ q.hi ∧ q.hi ≤ 20) ∧ q.lo ≤ q.hi) (hfew : st.length + (q.hi - q.lo).toNat * (4 * C.sz.toNat + 2) ≤ 9000) :
    Calls Tryz.prog 66 #[.pointer (some ⟨b, 0, none⟩), Nv.val q, exV x] w (Bdone w b lo hi v (bOpts (bPiece C) q.lz x (q.hi - q.lo).toNat st x).1 (exV (bOpts (bPiece C) q.lz x (q.hi - q.lo).toNat st x).2)) := by
  have hlt := h.blk.lt
  have hib := h.hib
  obtain ⟨x1, x2⟩ := x
  have hpl : pb < w.heap.size := by omega
  have h1 := h.alloc (.cells q.cells 56)
  have h2 := h1.alloc (.cells (exB (x1, x2)) 96)
  have h3 := h2.alloc (.cells (exB (0, 0)) 96)
  have h4 := h3.alloc (.cells (exB (x1, x2)) 96)
  have l0 := (((Loc.new h q.cells 56).alloc (.cells (exB (x1, x2)) 96)).alloc (.cells (exB (0, 0)) 96)).alloc (.cells (exB (x1, x2)) 96)
  have l1 := ((Loc.new h1 (exB (x1, x2)) 96).alloc (.cells (exB (0, 0)) 96)).alloc (.cells (exB (x1, x2)) 96)
  have l2 := (Loc.new h2 (exB (0, 0)) 96).alloc (.cells (exB (x1, x2)) 96)
  have l3 := Loc.new h3 (exB (x1, x2)) 96
  have W4 := ((((Went.refl b w v).alloc (.cells q.cells 56)).alloc (.cells (exB (x1, x2)) 96)).alloc (.cells (exB (0, 0)) 96)).alloc (.cells (exB (x1, x2)) 96)
  have S4 := (((hS.alloc (by omega) (.cells q.cells 56)).alloc (by simp; omega) (.cells (exB (x1, x2)) 96)).alloc (by simp; omega) (.cells (exB (0, 0)) 96)).alloc (by simp; omega) (.cells (exB (x1, x2)) 96)
  simp only [size_alloc0] at l1 l2 l3
  simp only [exB] at l1 l2 l3
  have hbs := fun h0 => bPiece_bs C hok (hsz h0)
  have START := hid (And.intro (And.intro l0 (And.intro l1 (And.intro l2 l3))) (And.intro W4 (And.intro h4 S4)))
  have HP := hid hP
  have HB := hid hbs
  have hd : (0 : Int) ≤ q.hi - q.lo ∧ q.hi - q.lo ≤ 20 := by omega
  generalize hm : (q.hi - q.lo).toNat = m at *
  have hmi : q.hi - q.lo = (m : Int) := by omega
  have HMI := hid hmi
  have HPA := hid hpa
  have HPN := hid hpn
  clear h h1 h2 h3 h4 l0 l1 l2 l3 W4 S4 hS hP hbs hm hmi hpa hpn
  simp only [Nv.val, exV, Nv.cells]
  go_enter Tryz.func66, Tryz.ntmps66
  go_wp2_with fail
  go_loopg [14] m (fun kk i wr => ∃ (j : Nat) (v1 : Value) (st1 : List MS) (a1 a2 : Int), i = .int .i64 j ∧ j ≤ m ∧ kk = m - j ∧ Hid (bOpts (bPiece C) q.lz (x1, x2) (m - j) st1 (a1, a2) = bOpts (bPiece C) q.lz (x1, x2) m st (x1, x2)) ∧ st.length ≤ st1.length ∧ st1.length + (m - j) * (4 * C.sz.toNat + 2) ≤ 9000 ∧ XOk st1.length (a1, a2) ∧
    BdAt wr b lo hi v1 st1 ∧ Went b w wr v v1 ∧ Sames lo hi w0 wr ∧ Loc wr b v1 w.heap.size q.cells 56 ∧ Loc wr b v1 (w.heap.size + 1) #[.int .i64 x1, .int .i64 x2] 96 ∧ Loc wr b v1 (w.heap.size + 1 + 1) #[.int .i64 0, .int .i64 0] 96 ∧ Loc wr b v1 (w.heap.size + 1 + 1 + 1) #[.int .i64 a1, .int .i64 a2] 96)
  case atStart =>
    obtain ⟨⟨l0, l1, l2, l3⟩, W4, h4, S4⟩ := START.out
    exact ⟨0, v, st, x1, x2, rfl, Nat.zero_le _, rfl, rfl, Nat.le_refl _, hfew, hx, h4, W4, S4, l0, l1, l2, l3⟩
  case round =>
    clear START
    obtain ⟨j, v1, st1, a1, a2, rfl, hj, rfl, HE, hge, hfw, hxo, hB, hW, hSm, L0, L1, L2, L3⟩ := hrel
    have hmi := HMI.out
    by_cases hlt2 : j < m
    · have hd1 : (j : Int) < q.hi - q.lo := by omega
      have hrs := RdS.of L0 HPA.out HPN.out (hK.sames hSm hpb.1 hpb.2)
      obtain ⟨c0, c1, _, _⟩ := L1.two
      obtain ⟨d0, d1, g0, g1⟩ := L3.two
      clear hmi
      have xb := XOk.mono hx hge
      have b1 := (HB.out (by omega)).xok st1 (a1, a2) hxo
      have b2 := (HB.out (by omega)).few st1 (a1, a2)
      have b3 := (HB.out (by omega)).grow st1 (a1, a2)
      have e3 := either_grow q.lz (bPiece C st1 (a1, a2)).1 (bPiece C st1 (a1, a2)).2 (x1, x2)
      have e4 := (either_ok (st := (bPiece C st1 (a1, a2)).1) q.lz b1.pair (xb.mono b3.1).pair (Or.inl (by have := b1.1; omega))).1
      have hmul : (m - j) * (4 * C.sz.toNat + 2) = (m - (j + 1)) * (4 * C.sz.toNat + 2) + (4 * C.sz.toNat + 2) := by
        obtain ⟨d, hd⟩ : ∃ d, m - j = d + 1 := ⟨m - j - 1, by omega⟩
        rw [hd, show m - (j + 1) = d by omega, Nat.succ_mul]
      have hB' := hB.new ((Kept.refl Nil wr).drew)
      have hW' := hW.new ((Kept.refl Nil wr).drew)
      have hS' : Sames lo hi w0 wr.drew := hSm
      have M0 : Loc wr.drew b v1 w.heap.size q.cells 56 := ⟨L0.blk, L0.not⟩
      have M1 : Loc wr.drew b v1 (w.heap.size + 1) #[.int .i64 x1, .int .i64 x2] 96 := ⟨L1.blk, L1.not⟩
      have M2 : Loc wr.drew b v1 (w.heap.size + 1 + 1) #[.int .i64 0, .int .i64 0] 96 := ⟨L2.blk, L2.not⟩
      have M3 : Loc wr.drew b v1 (w.heap.size + 1 + 1 + 1) #[.int .i64 a1, .int .i64 a2] 96 := ⟨L3.blk, L3.not⟩
      have F1 := HP.out (by omega) wr.drew v1 st1 (a1, a2) hB' hxo hS' (by omega)
      simp only [Nv.val, Nv.cells, exV] at F1
      have F1 := hid F1
      have PK := hid (And.intro (And.intro hB' (And.intro hW' hS')) (And.intro M0 (And.intro M1 (And.intro M2 M3))))
      have KK := hid hK
      clear hB hW hSm L0 L1 L2 L3 hB' hW' hS' M0 M1 M2 M3 hK
      have hrs0 : RdS wr.drew w.heap.size pb q N := hrs
      have PS := hid (And.intro hrs0 (And.intro (And.intro c0 c1) (And.intro d0 d1)))
      clear hrs hrs0 c0 c1 d0 d1
      go_wp2_with fail
      refine wp_region_last (S := OptS w pb q N x1 x2 a1 a2) 12 (by kernel_rfl) rfl rfl rfl (by kernel_rfl) (by kernel_rfl) ?_
      have hS0 : OptS w pb q N x1 x2 a1 a2 wr.drew := PS.out
      refine wpAnyH_take (i := 0) (v := .pointer (some ⟨b, 0, none⟩)) rfl (by kernel_rfl) (by kernel_rfl) (by kernel_rfl) (fun _ _ _ h => h) (Or.inl ⟨by rfl, fun W hSW => by obtain ⟨⟨⟨s0, s1⟩, ⟨s2, s3, s4, s5⟩, s6, s7, s8, s9⟩, ⟨s10, s11⟩, s12, s13⟩ := hSW; go_simp⟩) hS0 ?_
      simp only [Act.put, List.setIfInBounds_toArray]
      refine wpAnyH_take (i := 1) (v := .pointer (some ⟨w.heap.size, 7, none⟩)) rfl (by kernel_rfl) (by kernel_rfl) (by kernel_rfl) (fun _ _ _ h => h) (Or.inl ⟨by rfl, fun W hSW => by obtain ⟨⟨⟨s0, s1⟩, ⟨s2, s3, s4, s5⟩, s6, s7, s8, s9⟩, ⟨s10, s11⟩, s12, s13⟩ := hSW; go_simp⟩) hS0 ?_
      simp only [Act.put]
      refine wpAnyH_take (i := 2) (v := .bool q.lz) rfl (by kernel_rfl) (by kernel_rfl) (by kernel_rfl) (fun _ _ _ h => h) (Or.inl ⟨by rfl, fun W hSW => by obtain ⟨⟨⟨s0, s1⟩, ⟨s2, s3, s4, s5⟩, s6, s7, s8, s9⟩, ⟨s10, s11⟩, s12, s13⟩ := hSW; go_simp⟩) hS0 ?_
      simp only [Act.put]
      refine wpAnyH_take (i := 3) (v := .pointer (some ⟨b, 0, none⟩)) rfl (by kernel_rfl) (by kernel_rfl) (by kernel_rfl) (fun _ _ _ h => h) (Or.inl ⟨by rfl, fun W hSW => by obtain ⟨⟨⟨s0, s1⟩, ⟨s2, s3, s4, s5⟩, s6, s7, s8, s9⟩, ⟨s10, s11⟩, s12, s13⟩ := hSW; go_simp⟩) hS0 ?_
      simp only [Act.put]
      refine wpAnyH_take (i := 4) (v := .pointer (some ⟨w.heap.size, 1, none⟩)) rfl (by kernel_rfl) (by kernel_rfl) (by kernel_rfl) (fun _ _ _ h => h) (Or.inl ⟨by rfl, fun W hSW => by obtain ⟨⟨⟨s0, s1⟩, ⟨s2, s3, s4, s5⟩, s6, s7, s8, s9⟩, ⟨s10, s11⟩, s12, s13⟩ := hSW; go_simp⟩) hS0 ?_
      simp only [Act.put]
      refine wpAnyH_take (i := 5) (v := .slice (some ⟨pb, 0, none⟩) 1 q.pc) rfl (by kernel_rfl) (by kernel_rfl) (by kernel_rfl) (fun _ _ _ h => h) (Or.inl ⟨by rfl, fun W hSW => by obtain ⟨⟨⟨s0, s1⟩, ⟨s2, s3, s4, s5⟩, s6, s7, s8, s9⟩, ⟨s10, s11⟩, s12, s13⟩ := hSW; go_simp⟩) hS0 ?_
      simp only [Act.put]
      refine wpAnyH_take (i := 6) (v := .pointer (some ⟨pb, 0, none⟩)) rfl (by kernel_rfl) (by kernel_rfl) (by kernel_rfl) (fun _ _ _ h => h) (Or.inl ⟨by rfl, fun W hSW => by obtain ⟨⟨⟨s0, s1⟩, ⟨s2, s3, s4, s5⟩, s6, s7, s8, s9⟩, ⟨s10, s11⟩, s12, s13⟩ := hSW; go_simp⟩) hS0 ?_
      simp only [Act.put]
      refine wpAnyH_take (i := 7) (v := .agg #[.int .i64 N.k, .slice N.pa N.pn N.pc, .slice N.sa N.sn N.sc, .int .i64 N.ed, .int .i64 N.gr, .int .i64 N.lo, .int .i64 N.hi, .bool N.lz]) rfl (by kernel_rfl) (by kernel_rfl) (by kernel_rfl) (fun _ _ _ h => h) (Or.inl ⟨by rfl, fun W hSW => by obtain ⟨⟨⟨s0, s1⟩, ⟨s2, s3, s4, s5⟩, s6, s7, s8, s9⟩, ⟨s10, s11⟩, s12, s13⟩ := hSW; go_simp⟩) hS0 ?_
      simp only [Act.put]
      refine wpAnyH_take (i := 8) (v := .agg #[.int .i64 a1, .int .i64 a2]) rfl (by kernel_rfl) (by kernel_rfl) (by kernel_rfl) (fun _ _ _ h => h) (Or.inl ⟨by rfl, fun W hSW => by obtain ⟨⟨⟨s0, s1⟩, ⟨s2, s3, s4, s5⟩, s6, s7, s8, s9⟩, ⟨s10, s11⟩, s12, s13⟩ := hSW; go_simp⟩) hS0 ?_
      simp only [Act.put]
      refine wpAnyH_take (i := 10) (v := .agg #[.int .i64 x1, .int .i64 x2]) rfl (by kernel_rfl) (by kernel_rfl) (by kernel_rfl) (fun _ _ _ h => h) (Or.inl ⟨by rfl, fun W hSW => by obtain ⟨⟨⟨s0, s1⟩, ⟨s2, s3, s4, s5⟩, s6, s7, s8, s9⟩, ⟨s10, s11⟩, s12, s13⟩ := hSW; go_simp⟩) hS0 ?_
      simp only [Act.put]
      refine wpAnyH_ready (rs := [9]) (by kernel_rfl) (by simp) (AllReadyH.cons rfl (fun K hK => ?_) AllReadyH.nil)
      go_simp
      refine (F1.out).mono ?_
      rintro e w5 ⟨rfl, v5, h5, k5⟩
      dsimp only
      obtain ⟨⟨hB, hW, hSm⟩, M0, M1, M2, M3⟩ := PK.out
      have hS5 : OptS w pb q N x1 x2 a1 a2 w5 := OptS.of (M0.went k5) (M1.went k5) (M3.went k5) HPA.out HPN.out (KK.out.sames (hSm.went hB k5) hpb.1 hpb.2)
      refine hK.out _ _ hS5 (fun _ => ?_)
      clear hK K
      have F2 := either_rd h5 q.lz (bPiece C st1 (a1, a2)).2 (x1, x2) (by omega)
      simp only [exV] at F2
      have F2 := hid F2
      have PK2 := hid (And.intro (And.intro h5 (And.intro (hW.trans k5) (hSm.went hB k5))) (And.intro (M0.went k5) (And.intro (M1.went k5) (And.intro (M2.went k5) (M3.went k5)))))
      clear hB hW hSm M0 M1 M2 M3 h5 k5 hS0 hS5 PS F1 PK
      refine wpAnyH_ready (rs := [11]) (by kernel_rfl) (by simp) (AllReadyH.cons rfl (fun K hK => ?_) AllReadyH.nil)
      go_simp
      refine (F2.out).mono ?_
      rintro e w6 ⟨rfl, v6, h6, k6⟩
      dsimp only
      obtain ⟨⟨hB, hW, hSm⟩, M0, M1, M2, M3⟩ := PK2.out
      have hS6 : OptS w pb q N x1 x2 a1 a2 w6 := OptS.of (M0.went k6) (M1.went k6) (M3.went k6) HPA.out HPN.out (KK.out.sames (hSm.went hB k6) hpb.1 hpb.2)
      refine hK.out _ _ hS6 (fun _ => ?_)
      clear hK K
      obtain ⟨d0, d1, g0, g1⟩ := (M3.went k6).two
      generalize hE : bEither q.lz (bPiece C st1 (a1, a2)).1 (bPiece C st1 (a1, a2)).2 (x1, x2) = E at *
      obtain ⟨st2, y1, y2⟩ := E
      simp only at e3 e4 h6
      have N0 := ((M0.went k6).other (d := w.heap.size + 1 + 1 + 1) (by omega) 0 (.int .i64 y1)).other (d := w.heap.size + 1 + 1 + 1) (by omega) 1 (.int .i64 y2)
      have N1 := ((M1.went k6).other (d := w.heap.size + 1 + 1 + 1) (by omega) 0 (.int .i64 y1)).other (d := w.heap.size + 1 + 1 + 1) (by omega) 1 (.int .i64 y2)
      have N2 := ((M2.went k6).other (d := w.heap.size + 1 + 1 + 1) (by omega) 0 (.int .i64 y1)).other (d := w.heap.size + 1 + 1 + 1) (by omega) 1 (.int .i64 y2)
      have N3 := ((M3.went k6).setCell 0 (.int .i64 y1)).setCell 1 (.int .i64 y2)
      have h7 := (h6.set (M3.went k6).not (by omega) 0 (.int .i64 y1)).set (M3.went k6).not (by omega) 1 (.int .i64 y2)
      have W7 := ((hW.trans k6).set (c := w.heap.size + 1 + 1 + 1) (by omega) 0 (.int .i64 y1)).set (c := w.heap.size + 1 + 1 + 1) (by omega) 1 (.int .i64 y2)
      have S7 := ((hSm.went hB k6).set (c := w.heap.size + 1 + 1 + 1) (by omega) 0 (.int .i64 y1)).set (c := w.heap.size + 1 + 1 + 1) (by omega) 1 (.int .i64 y2)
      have HE2 : Hid (bOpts (bPiece C) q.lz (x1, x2) (m - (j + 1)) st2 (y1, y2) = bOpts (bPiece C) q.lz (x1, x2) m st (x1, x2)) := by
        rw [← HE.out, show m - j = (m - (j + 1)) + 1 by omega]
        show _ = bOpts (bPiece C) q.lz (x1, x2) (m - (j + 1)) (bEither q.lz (bPiece C st1 (a1, a2)).1 (bPiece C st1 (a1, a2)).2 (x1, x2)).1 (bEither q.lz (bPiece C st1 (a1, a2)).1 (bPiece C st1 (a1, a2)).2 (x1, x2)).2
        rw [hE]
      have PK3 := hid (And.intro (And.intro h7 (And.intro W7 S7)) (And.intro N0 (And.intro N1 (And.intro N2 N3))))
      clear hB hW hSm M0 M1 M2 M3 h6 k6 hS6 F2 PK2 N0 N1 N2 N3 h7 W7 S7 hE HE
      refine wpAnyH_done (by kernel_rfl) ?_ _
      unfold thenLast
      go_wp2_with fail
      go_roundg (m - (j + 1))
      case measure => omega
      case rel =>
        obtain ⟨⟨h7, W7, S7⟩, N0, N1, N2, N3⟩ := PK3.out
        exact ⟨j + 1, v6, st2, y1, y2, by go_num, by omega, rfl, HE2, by omega, by omega, e4, h7, W7, S7, N0, N1, N2, N3⟩
    · have ej : j = m := by omega
      subst ej
      have hd1 : ¬ ((j : Int) < q.hi - q.lo) := by omega
      have HE2 : Hid ((st1, (a1, a2)) = bOpts (bPiece C) q.lz (x1, x2) j st (x1, x2)) := by
        have := HE.out
        rw [Nat.sub_self] at this
        exact this
      obtain ⟨c0, c1, _, _⟩ := L3.two
      obtain ⟨d0, d1, g0, g1⟩ := L2.two
      have FIN := hid (And.intro hB (And.intro hW L2))
      clear hB hW hSm L0 L1 L2 L3 hmi HE
      go_wp2_with fail
      rw [← HE2.out]
      exact exits_fin FIN.out.1 FIN.out.2.1 FIN.out.2.2 (by omega) (by omega) Tryz.results66 rfl rfl
set_option maxRecDepth 100000

theorem ownsRow_set {w : World} {base e size n g cap : Nat} {xs : List Value} (h : w.ownsRow base e size (.slice (some ⟨g, 0, none⟩) n cap) n xs) (k : Nat) (u : Value) : (w.setCell ⟨g, k, none⟩ u).ownsRow base e size (.slice (some ⟨g, 0, none⟩) n cap) n (xs.set k u) := by
  obtain ⟨h1, h2⟩ := h
  refine ⟨by simpa using h1, Or.inr ?_⟩
  rcases h2 with ⟨h2, _⟩ | ⟨g', cap', cur, hv, a1, a2, a3, a4, a5, a6⟩
  · cases h2
  · cases hv
    refine ⟨g, cap, cur.setIfInBounds k u, rfl, a1, ?_, a3, a4, by simpa using a5, ?_⟩
    · have hb := (Array.getElem?_eq_some_iff.1 a2).1
      simp only [World.setCell, Array.getElem?_modify]
      simp [a2]
    · rw [Array.toList_setIfInBounds, List.take_set, a6]
theorem flatS_set (vs : List Sv) (a : Nat) (ha : a < vs.length) (s : Sv) : ((((((flatS vs).set (a * 6) (.int .i64 s.k)).set (a * 6 + 1) (.slice s.sa s.sn s.sc)).set (a * 6 + 2) (.int .i64 s.ed)).set (a * 6 + 3) (.int .i64 s.sl)).set (a * 6 + 4) (.int .i64 s.nx)).set (a * 6 + 5) (.int .i64 s.ot) = flatS (vs.set a s) := by
  induction vs generalizing a with
  | nil => simp at ha
  | cons q qs ih =>
    cases a with
    | zero => simp [flatS, Sv.cells]
    | succ a =>
      have := ih a (by simpa using ha)
      have e : ∀ j, (a + 1) * 6 + j = a * 6 + j + 1 + 1 + 1 + 1 + 1 + 1 := fun j => by omega
      have e0 : (a + 1) * 6 = a * 6 + 1 + 1 + 1 + 1 + 1 + 1 := by omega
      simp only [flatS, Sv.cells, List.cons_append, List.nil_append, List.set_cons_succ, e0, this]

/-- a state is written into the array of states -/
def putSv (w : World) (g i : Nat) (s : Sv) : World := (((((w.setCell ⟨g, i, none⟩ (.int .i64 s.k)).setCell ⟨g, i + 1, none⟩ (.slice s.sa s.sn s.sc)).setCell ⟨g, i + 2, none⟩ (.int .i64 s.ed)).setCell ⟨g, i + 3, none⟩ (.int .i64 s.sl)).setCell ⟨g, i + 4, none⟩ (.int .i64 s.nx)).setCell ⟨g, i + 5, none⟩ (.int .i64 s.ot)
theorem putSv_kept (w : World) (g i : Nat) (s : Sv) : Kept (fun k => k = g) w (putSv w g i s) :=
  ((((((Kept.refl (fun k => k = g) w).setCell (p := ⟨g, i, none⟩) (Or.inl rfl) _).setCell (p := ⟨g, i + 1, none⟩) (Or.inl rfl) _).setCell (p := ⟨g, i + 2, none⟩) (Or.inl rfl) _).setCell (p := ⟨g, i + 3, none⟩) (Or.inl rfl) _).setCell (p := ⟨g, i + 4, none⟩) (Or.inl rfl) _).setCell (p := ⟨g, i + 5, none⟩) (Or.inl rfl) _

/-- the states in their array -/
theorem BdAt.array {w : World} {b lo hi : Nat} {v : Value} {st : List MS} (h : BdAt w b lo hi v st) (hne : st ≠ []) : ∃ g c, v = .slice (some ⟨g, 0, none⟩) st.length c ∧ b + 1 ≤ g ∧ g < w.heap.size ∧ st.length ≤ c ∧
    (∀ i, (hi' : i < st.length) → ∃ s : Sv, SvAt w lo hi s st[i] ∧ ∀ j, j < 6 → w.cell? ⟨g, i * 6 + j, none⟩ = s.cells[j]? ∧ w.frozen? ⟨g, i * 6 + j, none⟩ = false) := by
  obtain ⟨vs, h1, h2, h3⟩ := h.row
  obtain ⟨hx, h1'⟩ := h1
  rcases h1' with ⟨_, h0⟩ | ⟨g, cap, cur, rfl, a1, a2, a3, a4, a5, a6⟩
  · exact absurd (List.length_eq_zero_iff.1 h0) hne
  · refine ⟨g, cap, rfl, a1, (Array.getElem?_eq_some_iff.1 a2).1, a3, fun i hi' => ⟨vs[i], h3 i (by omega) hi', fun j hj => ⟨?_, by simp [World.frozen?, a2]⟩⟩⟩
    have hf := flatS_get vs i (by omega) j hj
    rw [← hf, ← a6, List.getElem?_take_of_lt (by omega)]
    simp only [World.cell?, a2]
    simp
theorem BdAt.put {w : World} {b lo hi g c : Nat} {st : List MS} (h : BdAt w b lo hi (.slice (some ⟨g, 0, none⟩) st.length c) st) {a : Nat} (ha : a < st.length) {s : Sv} {m : MS} (hs : SvAt w lo hi s m) (hg : b + 1 ≤ g) : BdAt (putSv w g (a * 6) s) b lo hi (.slice (some ⟨g, 0, none⟩) st.length c) (st.set a m) := by
  have hib := h.hib
  have hlt := h.blk.lt
  have kk := putSv_kept w g (a * 6) s
  refine ⟨h.blk.kept kk (by omega), ?_, hib, by simpa using h.few⟩
  obtain ⟨vs, h1, h2, h3⟩ := h.row
  refine ⟨vs.set a s, ?_, by simp [h2], fun i a1 a2 => ?_⟩
  · rw [List.length_set, ← flatS_set vs a (by omega) s]
    exact ownsRow_set (ownsRow_set (ownsRow_set (ownsRow_set (ownsRow_set (ownsRow_set h1 _ _) _ _) _ _) _ _) _ _) _ _
  · simp only [List.length_set] at a1 a2
    by_cases e : i = a
    · subst e
      simp only [List.getElem_set_self]
      exact hs.kept kk (fun j j1 j2 e => by omega) (by omega)
    · rw [List.getElem_set_ne (fun x => e x.symm), List.getElem_set_ne (fun x => e x.symm)]
      exact (h3 i a1 a2).kept kk (fun j j1 j2 e => by omega) (by omega)
theorem SvAt.zero (w : World) (lo hi : Nat) : SvAt w lo hi ⟨0, none, 0, 0, 0, 0, 0, 0⟩ zeroS := ⟨rfl, rfl, rfl, rfl, rfl, by simp [zeroS], fun e => by simp [zeroS] at e⟩
theorem Went.put {b g i : Nat} {w w1 : World} {v v1 : Value} (h : Went b w w1 v v1) (hg : v1.ownBlock = some g) (s : Sv) : Went b w (putSv w1 g i s) v v1 :=
  ⟨h.kept.trans' (putSv_kept w1 g i s) (fun k hk e => by
    subst e
    rcases h.blk k hg with h1 | h1
    · exact Or.inr h1
    · omega), h.blk⟩
theorem Loc.put {w : World} {b c g : Nat} {v : Value} {cs : Array Value} {t : TypeId} (h : Loc w b v c cs t) (hg : v.ownBlock = some g) (i : Nat) (s : Sv) : Loc (putSv w g i s) b v c cs t :=
  ⟨h.blk.kept (putSv_kept w g i s) (fun e => h.not (Or.inr (e ▸ hg))), h.not⟩
/-- all that the last writing of a loop reads -/
def LpS (b g c B3 p n : Nat) (s : Sv) (w' : World) : Prop :=
  w'.cell? ⟨b, 0, none⟩ = some (.slice (some ⟨g, 0, none⟩) n c) ∧ w'.cell? ⟨B3, 1, none⟩ = some (.int .i64 p) ∧
  w'.cell? ⟨g, p * 6, none⟩ = some (.int .i64 s.k) ∧ w'.cell? ⟨g, p * 6 + 1, none⟩ = some (.slice s.sa s.sn s.sc) ∧ w'.cell? ⟨g, p * 6 + 2, none⟩ = some (.int .i64 s.ed) ∧ w'.cell? ⟨g, p * 6 + 3, none⟩ = some (.int .i64 s.sl) ∧ w'.cell? ⟨g, p * 6 + 4, none⟩ = some (.int .i64 s.nx) ∧ w'.cell? ⟨g, p * 6 + 5, none⟩ = some (.int .i64 s.ot)

theorem still_of (W : World) (p q : Int) : (Instr.field 96 (.agg #[.int .i64 p, .int .i64 q]) 0).run Tryz.prog W = .ok (.int .i64 p) W := by
  simp [Instr.field, asAgg, go_sem]

set_option maxHeartbeats 1200000 in
theorem loop_rd {w0 w : World} {b lo hi pb : Nat} {v : Value} {st : List MS} {q N : Nv} {C : CT} (h : BdAt w b lo hi v st) (x : Ex) (hx : XOk st.length x) (hS : Sames lo hi w0 w) (hok : C.ok) (hsz : C.sz ≤ 1000) (hP : PcOk b lo hi w0 N C)
    (hpa : q.pa = some ⟨pb, 0, none⟩) (hpn : q.pn = 1) (hpb : lo ≤ pb ∧ pb < hi) (hK : KidAt w0 pb 0 N) (hfew : st.length + (4 * C.sz.toNat + 3) ≤ 9000) :
    Calls Tryz.prog 65 #[.pointer (some ⟨b, 0, none⟩), Nv.val q, exV x] w (Bdone w b lo hi v (bLoop (bPiece C) q.lz st x).1 (exV (bLoop (bPiece C) q.lz st x).2)) := by
  have hlt := h.blk.lt
  have hib := h.hib
  obtain ⟨x1, x2⟩ := x
  have hpl : pb < w.heap.size := by omega
  have h1 := h.alloc (.cells q.cells 56)
  have h2 := h1.alloc (.cells (exB (x1, x2)) 96)
  have h3 := h2.alloc (.cells (exB (0, 0)) 96)
  have l0 := ((Loc.new h q.cells 56).alloc (.cells (exB (x1, x2)) 96)).alloc (.cells (exB (0, 0)) 96)
  have l1 := (Loc.new h1 (exB (x1, x2)) 96).alloc (.cells (exB (0, 0)) 96)
  have l2 := Loc.new h2 (exB (0, 0)) 96
  have W4 := (((Went.refl b w v).alloc (.cells q.cells 56)).alloc (.cells (exB (x1, x2)) 96)).alloc (.cells (exB (0, 0)) 96)
  have S4 := ((hS.alloc (by omega) (.cells q.cells 56)).alloc (by simp; omega) (.cells (exB (x1, x2)) 96)).alloc (by simp; omega) (.cells (exB (0, 0)) 96)
  simp only [size_alloc0] at l1 l2
  have hbs := bPiece_bs C hok hsz
  have hx1 : XOk (st ++ [zeroS]).length (-1, (st.length : Int)) := by unfold XOk; simp; omega
  have x2' := hbs.xok (st ++ [zeroS]) (-1, st.length) hx1
  have g2 := hbs.grow (st ++ [zeroS]) (-1, st.length)
  have n2 := hbs.few (st ++ [zeroS]) (-1, st.length)
  have hl1 : (st ++ [zeroS]).length = st.length + 1 := by simp
  rw [hl1] at g2 n2
  have F1 := add_rd h3 (SvAt.zero _ lo hi) (by omega)
  simp only [Sv.val, Sv.cells, exB, Nv.cells] at F1
  simp only [exB] at l1 l2
  have F1H := hid F1
  clear F1
  have START := hid (And.intro (And.intro l0 (And.intro l1 l2)) (And.intro W4 (And.intro h3 S4)))
  have HP := hid hP
  have HPA := hid hpa
  have HPN := hid hpn
  have KK := hid hK
  unfold bLoop bLoop0
  generalize hR : bPiece C (st ++ [zeroS]) (-1, st.length) = R at *
  obtain ⟨S1, t1, u1⟩ := R
  simp only at x2' g2 n2 ⊢
  have e3 := either_grow q.lz S1 (t1, t1) (x1, x2)
  have e4 := (either_ok (st := S1) q.lz (f := (t1, t1)) ⟨x2'.2, x2'.2⟩ (hx.mono (by omega)).pair (Or.inr (by have := hx.1; omega))).1
  generalize hE : bEither q.lz S1 (t1, t1) (x1, x2) = E at *
  obtain ⟨S2, y1, y2⟩ := E
  simp only at e3 e4 ⊢
  obtain ⟨p, rfl⟩ : ∃ p : Nat, y2 = p := ⟨y2.toNat, by have := e4.1; omega⟩
  have hp : p < S2.length := by have := e4.1; omega
  have eg : S2.getD (p : Int).toNat zeroS = S2[p] := by rw [Int.toNat_natCast, List.getD_eq_getElem?_getD, List.getElem?_eq_getElem hp]; rfl
  rw [eg]
  clear eg
  have HR := hid hR
  have HE := hid hE
  clear h h1 h2 h3 l0 l1 l2 W4 S4 hS hP hbs hpa hpn hK hR hE
  simp only [Nv.val, exV, Nv.cells]
  go_enter Tryz.func65, Tryz.ntmps65
  go_wp2_with fail
  refine (F1H.out).mono ?_
  rintro e w5 ⟨rfl, v5, h5, k5⟩
  obtain ⟨⟨l0, l1, l2⟩, W4, h4, S4⟩ := START.out
  have m0 := l0.went k5
  have S5 := S4.went h4 k5
  have hrs := RdS.of m0 HPA.out HPN.out (KK.out.sames S5 hpb.1 hpb.2)
  obtain ⟨⟨s0, s1⟩, ⟨s2, s3, s4, s5⟩, s6, s7, s8, s9⟩ := hrs
  have F2 := HP.out w5 v5 (st ++ [zeroS]) (-1, st.length) h5 hx1 S5 (by omega)
  rw [HR.out] at F2
  simp only [Nv.val, Nv.cells, exV] at F2
  have F2H := hid F2
  clear F2
  have PK := hid (And.intro (And.intro h5 (And.intro (W4.trans k5) S5)) (And.intro m0 (And.intro (l1.went k5) (l2.went k5))))
  clear l0 l1 l2 W4 h4 S4 m0 S5 h5 k5 START F1H
  go_wp2_with fail
  refine (F2H.out).mono ?_
  rintro e w6 ⟨rfl, v6, h6, k6⟩
  obtain ⟨⟨h5, W5, S5⟩, M0, M1, M2⟩ := PK.out
  obtain ⟨_, _, _, _, _, _, _, z7⟩ := (M0.went k6).eight
  obtain ⟨c0, c1, _, _⟩ := (M1.went k6).two
  have F3 := either_rd h6 q.lz (t1, t1) (x1, x2) (by omega)
  rw [HE.out] at F3
  simp only [exV] at F3
  have F3H := hid F3
  clear F3
  have PK2 := hid (And.intro (And.intro h6 (And.intro (W5.trans k6) (S5.went h5 k6))) (M2.went k6))
  clear h5 W5 S5 M0 M1 M2 h6 k6 PK F2H s0 s1 s2 s3 s4 s5 s6 s7 s8 s9
  have hst := still_of w6 t1 u1
  go_wp2_with fail
  refine (F3H.out).mono ?_
  rintro e w7 ⟨rfl, v7, h7, k7⟩
  obtain ⟨⟨h6, W6, S6⟩, M2⟩ := PK2.out
  have m2 := M2.went k7
  have W7 := W6.trans k7
  have sz7 := W7.kept.size
  obtain ⟨g, c7, hv7, hg1, hg2, hg3, harr⟩ := h7.array (by intro e; rw [e] at hp; simp at hp)
  obtain ⟨s, hsv, hcells⟩ := harr p hp
  obtain ⟨s', hsv', hcells'⟩ := harr st.length (by omega)
  subst hv7
  have ka : Kept Nil w7 ((w7.alloc (.cells #[.int .i64 y1, .int .i64 (p : Int)] 96)).drew) := ((Kept.refl Nil w7).alloc _).drew
  have cell : ∀ j u, w7.cell? ⟨g, j, none⟩ = u → ((w7.alloc (.cells #[.int .i64 y1, .int .i64 (p : Int)] 96)).drew).cell? ⟨g, j, none⟩ = u := fun j u hu => (ka.cell (p := ⟨g, j, none⟩) hg2 (fun hx => hx)).trans hu
  have hS0 : LpS b g c7 w7.heap.size p S2.length s ((w7.alloc (.cells #[.int .i64 y1, .int .i64 (p : Int)] 96)).drew) :=
    ⟨(h7.blk.kept ka (fun hx => hx)).cell 0, (Blk.new w7 #[.int .i64 y1, .int .i64 (p : Int)] 96).cell 1, cell _ _ (hcells 0 (by omega)).1, cell _ _ (hcells 1 (by omega)).1, cell _ _ (hcells 2 (by omega)).1, cell _ _ (hcells 3 (by omega)).1, cell _ _ (hcells 4 (by omega)).1, cell _ _ (hcells 5 (by omega)).1⟩
  have PS := hid hS0
  have hpi : (p : Int) < (S2.length : Int) := by omega
  have hsi : (st.length : Int) < (S2.length : Int) := by omega
  clear hS0 F3H PK2
  go_wp2_with fail
  refine wp_region_last (S := LpS b g c7 w7.heap.size p S2.length s) 14 (by kernel_rfl) rfl rfl rfl (by kernel_rfl) (by kernel_rfl) ?_
  have hS0 := PS.out
  refine takeH 0 30 (.pointer (some ⟨b, 0, none⟩)) rfl rfl (by kernel_rfl) (by kernel_rfl) (by kernel_rfl) (fun _ _ _ h => h) (Or.inl ⟨by rfl, fun W hSW => by obtain ⟨s0, s1, s2, s3, s4, s5, s6, s7⟩ := hSW; go_simp⟩) hS0 ?_
  refine takeH 1 31 (.pointer (some ⟨b, 0, none⟩)) rfl rfl (by kernel_rfl) (by kernel_rfl) (by kernel_rfl) (fun _ _ _ h => h) (Or.inl ⟨by rfl, fun W hSW => by obtain ⟨s0, s1, s2, s3, s4, s5, s6, s7⟩ := hSW; go_simp⟩) hS0 ?_
  refine takeH 2 32 (.pointer (some ⟨b, 0, none⟩)) rfl rfl (by kernel_rfl) (by kernel_rfl) (by kernel_rfl) (fun _ _ _ h => h) (Or.inl ⟨by rfl, fun W hSW => by obtain ⟨s0, s1, s2, s3, s4, s5, s6, s7⟩ := hSW; go_simp⟩) hS0 ?_
  refine takeH 3 33 (.slice (some ⟨g, 0, none⟩) S2.length c7) rfl rfl (by kernel_rfl) (by kernel_rfl) (by kernel_rfl) (fun _ _ _ h => h) (Or.inl ⟨by rfl, fun W hSW => by obtain ⟨s0, s1, s2, s3, s4, s5, s6, s7⟩ := hSW; go_simp⟩) hS0 ?_
  refine takeH 4 34 (.int .i64 st.length) rfl rfl (by kernel_rfl) (by kernel_rfl) (by kernel_rfl) (fun _ _ _ h => h) (Or.inl ⟨by rfl, fun W hSW => by obtain ⟨s0, s1, s2, s3, s4, s5, s6, s7⟩ := hSW; go_simp⟩) hS0 ?_
  refine takeH 5 35 (.pointer (some ⟨b, 0, none⟩)) rfl rfl (by kernel_rfl) (by kernel_rfl) (by kernel_rfl) (fun _ _ _ h => h) (Or.inl ⟨by rfl, fun W hSW => by obtain ⟨s0, s1, s2, s3, s4, s5, s6, s7⟩ := hSW; go_simp⟩) hS0 ?_
  refine takeH 6 36 (.pointer (some ⟨b, 0, none⟩)) rfl rfl (by kernel_rfl) (by kernel_rfl) (by kernel_rfl) (fun _ _ _ h => h) (Or.inl ⟨by rfl, fun W hSW => by obtain ⟨s0, s1, s2, s3, s4, s5, s6, s7⟩ := hSW; go_simp⟩) hS0 ?_
  refine takeH 7 37 (.pointer (some ⟨b, 0, none⟩)) rfl rfl (by kernel_rfl) (by kernel_rfl) (by kernel_rfl) (fun _ _ _ h => h) (Or.inl ⟨by rfl, fun W hSW => by obtain ⟨s0, s1, s2, s3, s4, s5, s6, s7⟩ := hSW; go_simp⟩) hS0 ?_
  refine takeH 8 38 (.slice (some ⟨g, 0, none⟩) S2.length c7) rfl rfl (by kernel_rfl) (by kernel_rfl) (by kernel_rfl) (fun _ _ _ h => h) (Or.inl ⟨by rfl, fun W hSW => by obtain ⟨s0, s1, s2, s3, s4, s5, s6, s7⟩ := hSW; go_simp⟩) hS0 ?_
  refine takeH 9 39 (.pointer (some ⟨w7.heap.size, 1, none⟩)) rfl rfl (by kernel_rfl) (by kernel_rfl) (by kernel_rfl) (fun _ _ _ h => h) (Or.inl ⟨by rfl, fun W hSW => by obtain ⟨s0, s1, s2, s3, s4, s5, s6, s7⟩ := hSW; go_simp⟩) hS0 ?_
  refine takeH 10 40 (.int .i64 p) rfl rfl (by kernel_rfl) (by kernel_rfl) (by kernel_rfl) (fun _ _ _ h => h) (Or.inl ⟨by rfl, fun W hSW => by obtain ⟨s0, s1, s2, s3, s4, s5, s6, s7⟩ := hSW; go_simp⟩) hS0 ?_
  refine takeH 11 41 (.pointer (some ⟨g, p * 6, none⟩)) rfl rfl (by kernel_rfl) (by kernel_rfl) (by kernel_rfl) (fun _ _ _ h => h) (Or.inl ⟨by rfl, fun W hSW => by obtain ⟨s0, s1, s2, s3, s4, s5, s6, s7⟩ := hSW; go_simp⟩) hS0 ?_
  refine takeH 12 42 (.agg #[.int .i64 s.k, .slice s.sa s.sn s.sc, .int .i64 s.ed, .int .i64 s.sl, .int .i64 s.nx, .int .i64 s.ot]) rfl rfl (by kernel_rfl) (by kernel_rfl) (by kernel_rfl) (fun _ _ _ h => h) (Or.inl ⟨by rfl, fun W hSW => by obtain ⟨s0, s1, s2, s3, s4, s5, s6, s7⟩ := hSW; go_simp⟩) hS0 ?_
  refine takeH 13 43 (.pointer (some ⟨g, st.length * 6, none⟩)) rfl rfl (by kernel_rfl) (by kernel_rfl) (by kernel_rfl) (fun _ _ _ h => h) (Or.inl ⟨by rfl, fun W hSW => by obtain ⟨s0, s1, s2, s3, s4, s5, s6, s7⟩ := hSW; go_simp⟩) hS0 ?_
  simp only [Act.put, List.setIfInBounds_toArray, List.set_cons_zero, List.set_cons_succ]
  refine wpAnyH_done (by kernel_rfl) ?_ _
  unfold thenLast
  dsimp only
  have q0 : w7.cell? ⟨g, st.length * 6, none⟩ = some (.int .i64 s'.k) := (hcells' 0 (by omega)).1
  have r0 : w7.frozen? ⟨g, st.length * 6, none⟩ = false := (hcells' 0 (by omega)).2
  have q1 : w7.cell? ⟨g, st.length * 6 + 1, none⟩ = some (.slice s'.sa s'.sn s'.sc) := (hcells' 1 (by omega)).1
  have r1 : w7.frozen? ⟨g, st.length * 6 + 1, none⟩ = false := (hcells' 1 (by omega)).2
  have q2 : w7.cell? ⟨g, st.length * 6 + 2, none⟩ = some (.int .i64 s'.ed) := (hcells' 2 (by omega)).1
  have r2 : w7.frozen? ⟨g, st.length * 6 + 2, none⟩ = false := (hcells' 2 (by omega)).2
  have q3 : w7.cell? ⟨g, st.length * 6 + 3, none⟩ = some (.int .i64 s'.sl) := (hcells' 3 (by omega)).1
  have r3 : w7.frozen? ⟨g, st.length * 6 + 3, none⟩ = false := (hcells' 3 (by omega)).2
  have q4 : w7.cell? ⟨g, st.length * 6 + 4, none⟩ = some (.int .i64 s'.nx) := (hcells' 4 (by omega)).1
  have r4 : w7.frozen? ⟨g, st.length * 6 + 4, none⟩ = false := (hcells' 4 (by omega)).2
  have q5 : w7.cell? ⟨g, st.length * 6 + 5, none⟩ = some (.int .i64 s'.ot) := (hcells' 5 (by omega)).1
  have r5 : w7.frozen? ⟨g, st.length * 6 + 5, none⟩ = false := (hcells' 5 (by omega)).2
  have h9 := h7.put (a := st.length) (by omega) hsv hg1
  have W9 := W7.put (i := st.length * 6) (g := g) rfl s
  have n2p := m2.put (g := g) rfl (st.length * 6) s
  have szp : (putSv w7 g (st.length * 6) s).heap.size = w7.heap.size := by simp [putSv, World.setCell]
  have h9b := (h9.set n2p.not (by omega) 0 (.int .i64 y1)).set n2p.not (by omega) 1 (.int .i64 (p : Int))
  have W9b := (W9.set (c := w.heap.size + 1 + 1) (by omega) 0 (.int .i64 y1)).set (c := w.heap.size + 1 + 1) (by omega) 1 (.int .i64 (p : Int))
  have n2b := (n2p.setCell 0 (.int .i64 y1)).setCell 1 (.int .i64 (p : Int))
  have h10 := h9b.alloc (.cells #[.int .i64 y1, .int .i64 (p : Int)] 96)
  have W10 := W9b.alloc (.cells #[.int .i64 y1, .int .i64 (p : Int)] 96)
  have n2q := (n2b.alloc (.cells #[.int .i64 y1, .int .i64 (p : Int)] 96)).blk
  have h11 := h10.new ((Kept.refl Nil _).drew)
  have W11 := W10.new ((Kept.refl Nil _).drew)
  have n2r := n2q.drew
  obtain ⟨d0, d1, f0, f1⟩ := n2p.two
  have hb2 : w.heap.size + 1 + 1 < w7.heap.size := m2.blk.lt
  have hgb : g ≠ w.heap.size + 1 + 1 := fun e => m2.not (Or.inr (by rw [← e]; rfl))
  have FIN := hid (And.intro h11 (And.intro W11 n2r))
  simp only [putSv] at d0 d1 f0 f1
  clear h9 W9 n2p h9b W9b n2b h10 W10 n2q h11 W11 n2r hsv hsv' hcells hcells' harr PS hS0 h7 k7 m2 M2 h6 W6 S6 W7 ka cell
  simp only [List.getElem_toArray, List.getElem_cons_succ, List.getElem_cons_zero]
  go_simp
  clear q0 q1 q2 q3 q4 q5 r0 r1 r2 r3 r4 r5 hpi hsi
  go_wp2_with fail
  refine exits_ret (x := (y1, (p : Int))) Tryz.results65 rfl rfl ?_ ?_
  · exact FIN.out.2.2
  · exact ⟨rfl, _, FIN.out.1, FIN.out.2.1⟩
end Go.Proofs.YtnbfddjaonlmaaaGreatDoor
