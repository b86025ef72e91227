/- The builder's repetition: so many times, and then a loop or options. -/
import Derived.Test.YtnbfddjaonlmaaaGreatDoorP20
namespace Go.Proofs.YtnbfddjaonlmaaaGreatDoor
open Go.RowKit Go.Maps
set_option linter.unusedVariables false
set_option maxRecDepth 100000

/-- all that the region of a round reads -/
def RepS (B0 B1 pb : Nat) (q N : Nv) (n1 n2 : Int) (w' : World) : Prop := RdS w' B0 pb q N ∧ w'.cell? ⟨B1, 0, none⟩ = some (.int .i64 n1) ∧ w'.cell? ⟨B1, 1, none⟩ = some (.int .i64 n2)
theorem copies_few {k lo hi c : Nat} (h : lo ≤ hi) : (hi - lo) * (4 * c + 2) + lo * (4 * c) ≤ 4 * (hi * (c + 1)) := by
  obtain ⟨d, rfl⟩ : ∃ d, hi = lo + d := ⟨hi - lo, by omega⟩
  rw [Nat.add_sub_cancel_left, Nat.add_mul, Nat.mul_add lo, Nat.mul_add d c, Nat.mul_add d (4 * c)]
  have : lo * (4 * c) = 4 * (lo * c) := by rw [Nat.mul_left_comm]
  have : d * (4 * c) = 4 * (d * c) := by rw [Nat.mul_left_comm]
  omega
theorem endless_few {lo c : Nat} : (4 * c + 3) + lo * (4 * c) ≤ 4 * ((lo + 1) * (c + 1)) := by
  rw [Nat.add_mul, Nat.mul_add lo]
  have : lo * (4 * c) = 4 * (lo * c) := by rw [Nat.mul_left_comm]
  omega

set_option maxHeartbeats 4000000 in
theorem repetition_rd {w0 w : World} {b lo hi pb : Nat} {v : Value} {st : List MS} {q N : Nv} {C : CT} (h : BdAt w b lo hi v st) (x : Ex) (hx : XOk st.length x) (hS : Sames lo hi w0 w) (hok : C.ok) (hsz : (if q.hi = -1 then q.lo + 1 else q.hi) * (C.sz + 1) ≤ 1000) (hP : C.sz ≤ 1000 → PcOk b lo hi w0 N C)
    (hpa : q.pa = some ⟨pb, 0, none⟩) (hpn : q.pn = 1) (hpb : lo ≤ pb ∧ pb < hi) (hK : KidAt w0 pb 0 N) (hr : 0 ≤ q.lo ∧ q.lo ≤ 20 ∧ -1 ≤ q.hi ∧ q.hi ≤ 20 ∧ (q.hi = -1 ∨ q.lo ≤ q.hi)) (hfew : st.length + 4 * ((if q.hi = -1 then q.lo + 1 else q.hi) * (C.sz + 1)).toNat ≤ 9000) :
    Calls Tryz.prog 49 #[.pointer (some ⟨b, 0, none⟩), Nv.val q, exV x] w (Bdone w b lo hi v (bTimes (bPiece C) q.lo q.hi q.lz st x).1 (exV (bTimes (bPiece C) q.lo q.hi q.lz st x).2)) := by
  have hlt := h.blk.lt
  have hib := h.hib
  have hcn := CT.sz_nonneg C hok
  obtain ⟨x1, x2⟩ := x
  have hpl : pb < w.heap.size := by omega
  have h1 := h.alloc (.cells q.cells 56)
  have h2 := h1.alloc (.cells (exB (x1, x2)) 96)
  have h3 := h2.alloc (.cells (exB (0, 0)) 96)
  have l0 := ((Loc.new h q.cells 56).alloc (.cells (exB (x1, x2)) 96)).alloc (.cells (exB (0, 0)) 96)
  have l1 := (Loc.new h1 (exB (x1, x2)) 96).alloc (.cells (exB (0, 0)) 96)
  have l2 := Loc.new h2 (exB (0, 0)) 96
  have W3 := (((Went.refl b w v).alloc (.cells q.cells 56)).alloc (.cells (exB (x1, x2)) 96)).alloc (.cells (exB (0, 0)) 96)
  have S3 := ((hS.alloc (by omega) (.cells q.cells 56)).alloc (by simp; omega) (.cells (exB (x1, x2)) 96)).alloc (by simp; omega) (.cells (exB (0, 0)) 96)
  simp only [size_alloc0] at l1 l2
  simp only [exB] at l1 l2
  have HPA := hid hpa
  have HPN := hid hpn
  have KK := hid hK
  obtain ⟨m, hm⟩ : ∃ m : Nat, q.lo = m := ⟨q.lo.toNat, by omega⟩
  have HMI := hid hm
  obtain ⟨c, hc⟩ : ∃ c : Nat, C.sz = c := ⟨C.sz.toNat, by omega⟩
  have hct : C.sz.toNat = c := by omega
  have hmt : q.lo.toNat = m := by omega
  unfold bTimes
  rw [hmt]
  by_cases hh : q.hi = -1
  · have hb : (q.hi == -1) = true := by simp [hh]
    simp only [if_pos hh] at hsz hfew ⊢
    have hmulp : (q.lo + 1) * (C.sz + 1) = (((m + 1) * (c + 1) : Nat) : Int) := by rw [hm, hc]; simp
    rw [hmulp] at hsz hfew
    have hpos : c + 1 ≤ (m + 1) * (c + 1) := Nat.le_mul_of_pos_left _ (by omega)
    have hszc : C.sz ≤ 1000 := by omega
    have few := endless_few (lo := m) (c := c)
    have HB : Hid (0 < m → BS (bPiece C) (4 * C.sz.toNat)) := fun _ => bPiece_bs C hok hszc
    have HP : Hid (0 < m → PcOk b lo hi w0 N C) := fun _ => hP hszc
    have F0 := loop_rd h3 (x1, x2) (by exact hx) S3 hok hszc (hP hszc) hpa hpn hpb hK (by rw [hct]; omega)
    have lp := (bPiece_bs C hok hszc).loop q.lz
    have xa := lp.xok st (x1, x2) hx
    have na := lp.few st (x1, x2)
    generalize hA : bLoop (bPiece C) q.lz st (x1, x2) = A at *
    obtain ⟨sa, ya, yb⟩ := A
    simp only at xa na F0 ⊢
    have hfa : sa.length + (m - 0) * (4 * C.sz.toNat) ≤ 9000 := by rw [hct] at na ⊢; rw [Nat.sub_zero]; omega
    clear hA lp hsz hfew hmulp hpos few na hm hc hmt hh
    simp only [exV, Nv.val, Nv.cells, exB] at F0
    have F0H := hid F0
    have START := hid (And.intro (And.intro l0 (And.intro l1 l2)) (And.intro W3 (And.intro h3 S3)))
    clear h h1 h2 h3 l0 l1 l2 W3 S3 hS hP hpa hpn F0 hK
    simp only [Nv.val, exV, Nv.cells]
    go_enter Tryz.func49, Tryz.ntmps49
    go_wp2_with fail
    refine (F0H.out).mono ?_
    rintro e w5 ⟨rfl, v5, h5, k5⟩
    obtain ⟨⟨l0, l1, l2⟩, W3, h3, S3⟩ := START.out
    have m1 := l1.went k5
    have m0 := l0.went k5
    obtain ⟨z0, z1, z2, z3, z4, z5, z6, z7⟩ := m0.eight
    obtain ⟨d0, d1, g0, g1⟩ := m1.two
    have N0 := (m0.other (d := w.heap.size + 1) (by omega) 0 (.int .i64 ya)).other (d := w.heap.size + 1) (by omega) 1 (.int .i64 yb)
    have N2 := ((l2.went k5).other (d := w.heap.size + 1) (by omega) 0 (.int .i64 ya)).other (d := w.heap.size + 1) (by omega) 1 (.int .i64 yb)
    have N1 := (m1.setCell 0 (.int .i64 ya)).setCell 1 (.int .i64 yb)
    have h7 := (h5.set m1.not (by omega) 0 (.int .i64 ya)).set m1.not (by omega) 1 (.int .i64 yb)
    have W7 := ((W3.trans k5).set (c := w.heap.size + 1) (by omega) 0 (.int .i64 ya)).set (c := w.heap.size + 1) (by omega) 1 (.int .i64 yb)
    have S7 := ((S3.went h3 k5).set (c := w.heap.size + 1) (by omega) 0 (.int .i64 ya)).set (c := w.heap.size + 1) (by omega) 1 (.int .i64 yb)
    have PK3 := hid (And.intro (And.intro h7 (And.intro W7 S7)) (And.intro N0 (And.intro N1 N2)))
    clear l0 l1 l2 W3 h3 S3 m1 m0 N0 N1 N2 h7 W7 S7 h5 k5 START F0H z0 z1 z2 z3 z4 z6 z7
    go_wp2_with fail
    go_loopg [20] m (fun kk i wr => ∃ (j : Nat) (v1 : Value) (st1 : List MS) (n1 n2 : Int), i = .int .i64 j ∧ j ≤ m ∧ kk = m - j ∧ Hid (bReps (bPiece C) (m - j) st1 (n1, n2) = bReps (bPiece C) m sa (ya, yb)) ∧ st1.length + (m - j) * (4 * C.sz.toNat) ≤ 9000 ∧ XOk st1.length (n1, n2) ∧
      BdAt wr b lo hi v1 st1 ∧ Went b w wr v v1 ∧ Sames lo hi w0 wr ∧ Loc wr b v1 w.heap.size q.cells 56 ∧ Loc wr b v1 (w.heap.size + 1) #[.int .i64 n1, .int .i64 n2] 96 ∧ Loc wr b v1 (w.heap.size + 1 + 1) #[.int .i64 0, .int .i64 0] 96)
    case atStart =>
      obtain ⟨⟨h7, W7, S7⟩, N0, N1, N2⟩ := PK3.out
      exact ⟨0, v5, sa, ya, yb, rfl, Nat.zero_le _, rfl, rfl, hfa, xa, h7, W7, S7, N0, N1, N2⟩
    case round =>
      clear PK3
      obtain ⟨j, v1, st1, n1, n2, rfl, hj, rfl, HE, hfw, hxo, hB, hW, hSm, L0, L1, L2⟩ := hrel
      have hmi := HMI.out
      by_cases hlt2 : j < m
      · have hd1 : (j : Int) < q.lo := by omega
        have hB' := hB.new ((Kept.refl Nil wr).drew)
        have hW' := hW.new ((Kept.refl Nil wr).drew)
        have hS' : Sames lo hi w0 wr.drew := hSm
        have M0 : Loc wr.drew b v1 w.heap.size q.cells 56 := ⟨L0.blk, L0.not⟩
        have M1 : Loc wr.drew b v1 (w.heap.size + 1) #[.int .i64 n1, .int .i64 n2] 96 := ⟨L1.blk, L1.not⟩
        have M2 : Loc wr.drew b v1 (w.heap.size + 1 + 1) #[.int .i64 0, .int .i64 0] 96 := ⟨L2.blk, L2.not⟩
        have hPS : RepS w.heap.size (w.heap.size + 1) pb q N n1 n2 wr.drew := ⟨RdS.of M0 HPA.out HPN.out (KK.out.sames hS' hpb.1 hpb.2), M1.two.1, M1.two.2.1⟩
        have PS := hid hPS
        have hbs := HB.out (by omega)
        have b1 := hbs.xok st1 (n1, n2) hxo
        have b2 := hbs.few st1 (n1, n2)
        have hmul : (m - j) * (4 * C.sz.toNat) = (m - (j + 1)) * (4 * C.sz.toNat) + (4 * C.sz.toNat) := by
          obtain ⟨d, hd⟩ : ∃ d, m - j = d + 1 := ⟨m - j - 1, by omega⟩
          rw [hd, show m - (j + 1) = d by omega, Nat.succ_mul]
        have F1 := HP.out (by omega) wr.drew v1 st1 (n1, n2) hB' hxo hS' (by omega)
        simp only [Nv.val, Nv.cells, exV] at F1
        have F1H := hid F1
        have PK := hid (And.intro (And.intro hB' (And.intro hW' hS')) (And.intro M0 (And.intro M1 M2)))
        clear hB hW hSm L0 L1 L2 hB' hW' hS' M0 M1 M2 hPS F1 hbs hmi
        go_wp2_with fail
        refine wp_region_last (S := RepS w.heap.size (w.heap.size + 1) pb q N n1 n2) 7 (by kernel_rfl) rfl rfl rfl (by kernel_rfl) (by kernel_rfl) ?_
        have hS0 := PS.out
        refine takeH 0 22 (.pointer (some ⟨b, 0, none⟩)) rfl rfl (by kernel_rfl) (by kernel_rfl) (by kernel_rfl) (fun _ _ _ h => h) (Or.inl ⟨by rfl, fun W hSW => by obtain ⟨⟨⟨s0, s1⟩, ⟨s2, s3, s4, s5⟩, s6, s7, s8, s9⟩, s10, s11⟩ := hSW; go_simp⟩) hS0 ?_
        refine takeH 1 23 (.pointer (some ⟨w.heap.size, 1, none⟩)) rfl rfl (by kernel_rfl) (by kernel_rfl) (by kernel_rfl) (fun _ _ _ h => h) (Or.inl ⟨by rfl, fun W hSW => by obtain ⟨⟨⟨s0, s1⟩, ⟨s2, s3, s4, s5⟩, s6, s7, s8, s9⟩, s10, s11⟩ := hSW; go_simp⟩) hS0 ?_
        refine takeH 2 24 (.slice (some ⟨pb, 0, none⟩) 1 q.pc) rfl rfl (by kernel_rfl) (by kernel_rfl) (by kernel_rfl) (fun _ _ _ h => h) (Or.inl ⟨by rfl, fun W hSW => by obtain ⟨⟨⟨s0, s1⟩, ⟨s2, s3, s4, s5⟩, s6, s7, s8, s9⟩, s10, s11⟩ := hSW; go_simp⟩) hS0 ?_
        refine takeH 3 25 (.pointer (some ⟨pb, 0, none⟩)) rfl rfl (by kernel_rfl) (by kernel_rfl) (by kernel_rfl) (fun _ _ _ h => h) (Or.inl ⟨by rfl, fun W hSW => by obtain ⟨⟨⟨s0, s1⟩, ⟨s2, s3, s4, s5⟩, s6, s7, s8, s9⟩, s10, s11⟩ := hSW; go_simp⟩) hS0 ?_
        refine takeH 4 26 (.agg #[.int .i64 N.k, .slice N.pa N.pn N.pc, .slice N.sa N.sn N.sc, .int .i64 N.ed, .int .i64 N.gr, .int .i64 N.lo, .int .i64 N.hi, .bool N.lz]) rfl rfl (by kernel_rfl) (by kernel_rfl) (by kernel_rfl) (fun _ _ _ h => h) (Or.inl ⟨by rfl, fun W hSW => by obtain ⟨⟨⟨s0, s1⟩, ⟨s2, s3, s4, s5⟩, s6, s7, s8, s9⟩, s10, s11⟩ := hSW; go_simp⟩) hS0 ?_
        refine takeH 5 27 (.agg #[.int .i64 n1, .int .i64 n2]) rfl rfl (by kernel_rfl) (by kernel_rfl) (by kernel_rfl) (fun _ _ _ h => h) (Or.inl ⟨by rfl, fun W hSW => by obtain ⟨⟨⟨s0, s1⟩, ⟨s2, s3, s4, s5⟩, s6, s7, s8, s9⟩, s10, s11⟩ := hSW; go_simp⟩) hS0 ?_
        simp only [Act.put, List.setIfInBounds_toArray, List.set_cons_zero, List.set_cons_succ]
        refine wpAnyH_ready (rs := [6]) (by kernel_rfl) (by simp) (AllReadyH.cons rfl (fun K hK => ?_) AllReadyH.nil)
        go_simp
        refine (F1H.out).mono ?_
        rintro e w6 ⟨rfl, v6, h6, k6⟩
        dsimp only
        obtain ⟨⟨hB, hW, hSm⟩, M0, M1, M2⟩ := PK.out
        have hS6 : RepS w.heap.size (w.heap.size + 1) pb q N n1 n2 w6 := ⟨RdS.of (M0.went k6) HPA.out HPN.out (KK.out.sames (hSm.went hB k6) hpb.1 hpb.2), (M1.went k6).two.1, (M1.went k6).two.2.1⟩
        refine hK.out _ _ hS6 (fun _ => ?_)
        clear hK K
        obtain ⟨d0, d1, g0, g1⟩ := (M1.went k6).two
        generalize hE : bPiece C st1 (n1, n2) = E at *
        obtain ⟨st2, y1, y2⟩ := E
        simp only at b1 b2 h6
        have N0 := ((M0.went k6).other (d := w.heap.size + 1) (by omega) 0 (.int .i64 y1)).other (d := w.heap.size + 1) (by omega) 1 (.int .i64 y2)
        have N2 := ((M2.went k6).other (d := w.heap.size + 1) (by omega) 0 (.int .i64 y1)).other (d := w.heap.size + 1) (by omega) 1 (.int .i64 y2)
        have N1 := ((M1.went k6).setCell 0 (.int .i64 y1)).setCell 1 (.int .i64 y2)
        have h7 := (h6.set (M1.went k6).not (by omega) 0 (.int .i64 y1)).set (M1.went k6).not (by omega) 1 (.int .i64 y2)
        have W7 := ((hW.trans k6).set (c := w.heap.size + 1) (by omega) 0 (.int .i64 y1)).set (c := w.heap.size + 1) (by omega) 1 (.int .i64 y2)
        have S7 := ((hSm.went hB k6).set (c := w.heap.size + 1) (by omega) 0 (.int .i64 y1)).set (c := w.heap.size + 1) (by omega) 1 (.int .i64 y2)
        have HE2 : Hid (bReps (bPiece C) (m - (j + 1)) st2 (y1, y2) = bReps (bPiece C) m sa (ya, yb)) := by
          rw [← HE.out, show m - j = (m - (j + 1)) + 1 by omega]
          show _ = bReps (bPiece C) (m - (j + 1)) (bPiece C st1 (n1, n2)).1 (bPiece C st1 (n1, n2)).2
          rw [hE]
        have PK3 := hid (And.intro (And.intro h7 (And.intro W7 S7)) (And.intro N0 (And.intro N1 N2)))
        clear hB hW hSm M0 M1 M2 h6 k6 hS6 PK N0 N1 N2 h7 W7 S7 hE HE F1H PS hS0
        refine wpAnyH_done (by kernel_rfl) ?_ _
        unfold thenLast
        go_wp2_with fail
        go_roundg (m - (j + 1))
        case measure => omega
        case rel =>
          obtain ⟨⟨h7, W7, S7⟩, N0, N1, N2⟩ := PK3.out
          exact ⟨j + 1, v6, st2, y1, y2, by go_num, by omega, rfl, HE2, by omega, b1, h7, W7, S7, N0, N1, N2⟩
      · have ej : j = m := by omega
        subst ej
        have hd1 : ¬ ((j : Int) < q.lo) := by omega
        have HE2 : Hid ((st1, (n1, n2)) = bReps (bPiece C) j sa (ya, yb)) := by
          have := HE.out
          rw [Nat.sub_self] at this
          exact this
        obtain ⟨c0, c1, _, _⟩ := L1.two
        obtain ⟨d0, d1, g0, g1⟩ := L2.two
        have FIN := hid (And.intro hB (And.intro hW L2))
        clear hB hW hSm L0 L1 L2 hmi HE
        go_wp2_with fail
        rw [← HE2.out]
        exact exits_fin FIN.out.1 FIN.out.2.1 FIN.out.2.2 (by omega) (by omega) Tryz.results49 rfl rfl
  · have hb : (q.hi == -1) = false := by simp [hh]
    simp only [if_neg hh] at hsz hfew ⊢
    obtain ⟨k, hk⟩ : ∃ k : Nat, q.hi = k := ⟨q.hi.toNat, by omega⟩
    have hmulp : q.hi * (C.sz + 1) = ((k * (c + 1) : Nat) : Int) := by rw [hk, hc]; simp
    rw [hmulp] at hsz hfew
    have hmk : m ≤ k := by omega
    have hszc : 0 < k → C.sz ≤ 1000 := fun h0 => by
      have hpos : c + 1 ≤ k * (c + 1) := Nat.le_mul_of_pos_left _ h0
      omega
    have few := copies_few (k := k) (c := c) hmk
    have hd : (q.hi - q.lo).toNat = k - m := by omega
    have HB : Hid (0 < m → BS (bPiece C) (4 * C.sz.toNat)) := fun h0 => bPiece_bs C hok (hszc (by omega))
    have HP : Hid (0 < m → PcOk b lo hi w0 N C) := fun h0 => hP (hszc (by omega))
    have F0 := options_rd h3 (x1, x2) (by exact hx) S3 hok (fun h0 => hszc (by omega)) (fun h0 => hP (hszc (by omega))) hpa hpn hpb hK ⟨by omega, by omega, by omega⟩ (by rw [hct, hd]; omega)
    have xa : XOk (bOpts (bPiece C) q.lz (x1, x2) (q.hi - q.lo).toNat st (x1, x2)).1.length (bOpts (bPiece C) q.lz (x1, x2) (q.hi - q.lo).toNat st (x1, x2)).2 ∧ (bOpts (bPiece C) q.lz (x1, x2) (q.hi - q.lo).toNat st (x1, x2)).1.length ≤ st.length + (k - m) * (4 * c + 2) := by
      by_cases h0 : k - m = 0
      · rw [hd, h0]
        exact ⟨hx, by simp [bOpts]⟩
      · have op := (bPiece_bs C hok (hszc (by omega))).opts q.lz (q.hi - q.lo).toNat
        rw [hct, hd] at op
        rw [hd]
        exact ⟨op.xok _ _ _ hx hx, op.few _ _ _⟩
    generalize hA : bOpts (bPiece C) q.lz (x1, x2) (q.hi - q.lo).toNat st (x1, x2) = A at *
    obtain ⟨sa, ya, yb⟩ := A
    obtain ⟨xa, na⟩ := xa
    simp only at xa na F0 ⊢
    have hfa : sa.length + (m - 0) * (4 * C.sz.toNat) ≤ 9000 := by rw [hct, Nat.sub_zero]; omega
    clear hA hsz hfew hmulp few na hm hc hmt hh hszc hk hd hmk
    simp only [exV, Nv.val, Nv.cells, exB] at F0
    have F0H := hid F0
    have START := hid (And.intro (And.intro l0 (And.intro l1 l2)) (And.intro W3 (And.intro h3 S3)))
    clear h h1 h2 h3 l0 l1 l2 W3 S3 hS hP hpa hpn F0 hK
    simp only [Nv.val, exV, Nv.cells]
    go_enter Tryz.func49, Tryz.ntmps49
    go_wp2_with fail
    refine (F0H.out).mono ?_
    rintro e w5 ⟨rfl, v5, h5, k5⟩
    obtain ⟨⟨l0, l1, l2⟩, W3, h3, S3⟩ := START.out
    have m1 := l1.went k5
    have m0 := l0.went k5
    obtain ⟨z0, z1, z2, z3, z4, z5, z6, z7⟩ := m0.eight
    obtain ⟨d0, d1, g0, g1⟩ := m1.two
    have N0 := (m0.other (d := w.heap.size + 1) (by omega) 0 (.int .i64 ya)).other (d := w.heap.size + 1) (by omega) 1 (.int .i64 yb)
    have N2 := ((l2.went k5).other (d := w.heap.size + 1) (by omega) 0 (.int .i64 ya)).other (d := w.heap.size + 1) (by omega) 1 (.int .i64 yb)
    have N1 := (m1.setCell 0 (.int .i64 ya)).setCell 1 (.int .i64 yb)
    have h7 := (h5.set m1.not (by omega) 0 (.int .i64 ya)).set m1.not (by omega) 1 (.int .i64 yb)
    have W7 := ((W3.trans k5).set (c := w.heap.size + 1) (by omega) 0 (.int .i64 ya)).set (c := w.heap.size + 1) (by omega) 1 (.int .i64 yb)
    have S7 := ((S3.went h3 k5).set (c := w.heap.size + 1) (by omega) 0 (.int .i64 ya)).set (c := w.heap.size + 1) (by omega) 1 (.int .i64 yb)
    have PK3 := hid (And.intro (And.intro h7 (And.intro W7 S7)) (And.intro N0 (And.intro N1 N2)))
    clear l0 l1 l2 W3 h3 S3 m1 m0 N0 N1 N2 h7 W7 S7 h5 k5 START F0H z0 z1 z2 z3 z4 z6 z7
    go_wp2_with fail
    go_loopg [20] m (fun kk i wr => ∃ (j : Nat) (v1 : Value) (st1 : List MS) (n1 n2 : Int), i = .int .i64 j ∧ j ≤ m ∧ kk = m - j ∧ Hid (bReps (bPiece C) (m - j) st1 (n1, n2) = bReps (bPiece C) m sa (ya, yb)) ∧ st1.length + (m - j) * (4 * C.sz.toNat) ≤ 9000 ∧ XOk st1.length (n1, n2) ∧
      BdAt wr b lo hi v1 st1 ∧ Went b w wr v v1 ∧ Sames lo hi w0 wr ∧ Loc wr b v1 w.heap.size q.cells 56 ∧ Loc wr b v1 (w.heap.size + 1) #[.int .i64 n1, .int .i64 n2] 96 ∧ Loc wr b v1 (w.heap.size + 1 + 1) #[.int .i64 0, .int .i64 0] 96)
    case atStart =>
      obtain ⟨⟨h7, W7, S7⟩, N0, N1, N2⟩ := PK3.out
      exact ⟨0, v5, sa, ya, yb, rfl, Nat.zero_le _, rfl, rfl, hfa, xa, h7, W7, S7, N0, N1, N2⟩
    case round =>
      clear PK3
      obtain ⟨j, v1, st1, n1, n2, rfl, hj, rfl, HE, hfw, hxo, hB, hW, hSm, L0, L1, L2⟩ := hrel
      have hmi := HMI.out
      by_cases hlt2 : j < m
      · have hd1 : (j : Int) < q.lo := by omega
        have hB' := hB.new ((Kept.refl Nil wr).drew)
        have hW' := hW.new ((Kept.refl Nil wr).drew)
        have hS' : Sames lo hi w0 wr.drew := hSm
        have M0 : Loc wr.drew b v1 w.heap.size q.cells 56 := ⟨L0.blk, L0.not⟩
        have M1 : Loc wr.drew b v1 (w.heap.size + 1) #[.int .i64 n1, .int .i64 n2] 96 := ⟨L1.blk, L1.not⟩
        have M2 : Loc wr.drew b v1 (w.heap.size + 1 + 1) #[.int .i64 0, .int .i64 0] 96 := ⟨L2.blk, L2.not⟩
        have hPS : RepS w.heap.size (w.heap.size + 1) pb q N n1 n2 wr.drew := ⟨RdS.of M0 HPA.out HPN.out (KK.out.sames hS' hpb.1 hpb.2), M1.two.1, M1.two.2.1⟩
        have PS := hid hPS
        have hbs := HB.out (by omega)
        have b1 := hbs.xok st1 (n1, n2) hxo
        have b2 := hbs.few st1 (n1, n2)
        have hmul : (m - j) * (4 * C.sz.toNat) = (m - (j + 1)) * (4 * C.sz.toNat) + (4 * C.sz.toNat) := by
          obtain ⟨d, hd⟩ : ∃ d, m - j = d + 1 := ⟨m - j - 1, by omega⟩
          rw [hd, show m - (j + 1) = d by omega, Nat.succ_mul]
        have F1 := HP.out (by omega) wr.drew v1 st1 (n1, n2) hB' hxo hS' (by omega)
        simp only [Nv.val, Nv.cells, exV] at F1
        have F1H := hid F1
        have PK := hid (And.intro (And.intro hB' (And.intro hW' hS')) (And.intro M0 (And.intro M1 M2)))
        clear hB hW hSm L0 L1 L2 hB' hW' hS' M0 M1 M2 hPS F1 hbs hmi
        go_wp2_with fail
        refine wp_region_last (S := RepS w.heap.size (w.heap.size + 1) pb q N n1 n2) 7 (by kernel_rfl) rfl rfl rfl (by kernel_rfl) (by kernel_rfl) ?_
        have hS0 := PS.out
        refine takeH 0 22 (.pointer (some ⟨b, 0, none⟩)) rfl rfl (by kernel_rfl) (by kernel_rfl) (by kernel_rfl) (fun _ _ _ h => h) (Or.inl ⟨by rfl, fun W hSW => by obtain ⟨⟨⟨s0, s1⟩, ⟨s2, s3, s4, s5⟩, s6, s7, s8, s9⟩, s10, s11⟩ := hSW; go_simp⟩) hS0 ?_
        refine takeH 1 23 (.pointer (some ⟨w.heap.size, 1, none⟩)) rfl rfl (by kernel_rfl) (by kernel_rfl) (by kernel_rfl) (fun _ _ _ h => h) (Or.inl ⟨by rfl, fun W hSW => by obtain ⟨⟨⟨s0, s1⟩, ⟨s2, s3, s4, s5⟩, s6, s7, s8, s9⟩, s10, s11⟩ := hSW; go_simp⟩) hS0 ?_
        refine takeH 2 24 (.slice (some ⟨pb, 0, none⟩) 1 q.pc) rfl rfl (by kernel_rfl) (by kernel_rfl) (by kernel_rfl) (fun _ _ _ h => h) (Or.inl ⟨by rfl, fun W hSW => by obtain ⟨⟨⟨s0, s1⟩, ⟨s2, s3, s4, s5⟩, s6, s7, s8, s9⟩, s10, s11⟩ := hSW; go_simp⟩) hS0 ?_
        refine takeH 3 25 (.pointer (some ⟨pb, 0, none⟩)) rfl rfl (by kernel_rfl) (by kernel_rfl) (by kernel_rfl) (fun _ _ _ h => h) (Or.inl ⟨by rfl, fun W hSW => by obtain ⟨⟨⟨s0, s1⟩, ⟨s2, s3, s4, s5⟩, s6, s7, s8, s9⟩, s10, s11⟩ := hSW; go_simp⟩) hS0 ?_
        refine takeH 4 26 (.agg #[.int .i64 N.k, .slice N.pa N.pn N.pc, .slice N.sa N.sn N.sc, .int .i64 N.ed, .int .i64 N.gr, .int .i64 N.lo, .int .i64 N.hi, .bool N.lz]) rfl rfl (by kernel_rfl) (by kernel_rfl) (by kernel_rfl) (fun _ _ _ h => h) (Or.inl ⟨by rfl, fun W hSW => by obtain ⟨⟨⟨s0, s1⟩, ⟨s2, s3, s4, s5⟩, s6, s7, s8, s9⟩, s10, s11⟩ := hSW; go_simp⟩) hS0 ?_
        refine takeH 5 27 (.agg #[.int .i64 n1, .int .i64 n2]) rfl rfl (by kernel_rfl) (by kernel_rfl) (by kernel_rfl) (fun _ _ _ h => h) (Or.inl ⟨by rfl, fun W hSW => by obtain ⟨⟨⟨s0, s1⟩, ⟨s2, s3, s4, s5⟩, s6, s7, s8, s9⟩, s10, s11⟩ := hSW; go_simp⟩) hS0 ?_
        simp only [Act.put, List.setIfInBounds_toArray, List.set_cons_zero, List.set_cons_succ]
        refine wpAnyH_ready (rs := [6]) (by kernel_rfl) (by simp) (AllReadyH.cons rfl (fun K hK => ?_) AllReadyH.nil)
        go_simp
        refine (F1H.out).mono ?_
        rintro e w6 ⟨rfl, v6, h6, k6⟩
        dsimp only
        obtain ⟨⟨hB, hW, hSm⟩, M0, M1, M2⟩ := PK.out
        have hS6 : RepS w.heap.size (w.heap.size + 1) pb q N n1 n2 w6 := ⟨RdS.of (M0.went k6) HPA.out HPN.out (KK.out.sames (hSm.went hB k6) hpb.1 hpb.2), (M1.went k6).two.1, (M1.went k6).two.2.1⟩
        refine hK.out _ _ hS6 (fun _ => ?_)
        clear hK K
        obtain ⟨d0, d1, g0, g1⟩ := (M1.went k6).two
        generalize hE : bPiece C st1 (n1, n2) = E at *
        obtain ⟨st2, y1, y2⟩ := E
        simp only at b1 b2 h6
        have N0 := ((M0.went k6).other (d := w.heap.size + 1) (by omega) 0 (.int .i64 y1)).other (d := w.heap.size + 1) (by omega) 1 (.int .i64 y2)
        have N2 := ((M2.went k6).other (d := w.heap.size + 1) (by omega) 0 (.int .i64 y1)).other (d := w.heap.size + 1) (by omega) 1 (.int .i64 y2)
        have N1 := ((M1.went k6).setCell 0 (.int .i64 y1)).setCell 1 (.int .i64 y2)
        have h7 := (h6.set (M1.went k6).not (by omega) 0 (.int .i64 y1)).set (M1.went k6).not (by omega) 1 (.int .i64 y2)
        have W7 := ((hW.trans k6).set (c := w.heap.size + 1) (by omega) 0 (.int .i64 y1)).set (c := w.heap.size + 1) (by omega) 1 (.int .i64 y2)
        have S7 := ((hSm.went hB k6).set (c := w.heap.size + 1) (by omega) 0 (.int .i64 y1)).set (c := w.heap.size + 1) (by omega) 1 (.int .i64 y2)
        have HE2 : Hid (bReps (bPiece C) (m - (j + 1)) st2 (y1, y2) = bReps (bPiece C) m sa (ya, yb)) := by
          rw [← HE.out, show m - j = (m - (j + 1)) + 1 by omega]
          show _ = bReps (bPiece C) (m - (j + 1)) (bPiece C st1 (n1, n2)).1 (bPiece C st1 (n1, n2)).2
          rw [hE]
        have PK3 := hid (And.intro (And.intro h7 (And.intro W7 S7)) (And.intro N0 (And.intro N1 N2)))
        clear hB hW hSm M0 M1 M2 h6 k6 hS6 PK N0 N1 N2 h7 W7 S7 hE HE F1H PS hS0
        refine wpAnyH_done (by kernel_rfl) ?_ _
        unfold thenLast
        go_wp2_with fail
        go_roundg (m - (j + 1))
        case measure => omega
        case rel =>
          obtain ⟨⟨h7, W7, S7⟩, N0, N1, N2⟩ := PK3.out
          exact ⟨j + 1, v6, st2, y1, y2, by go_num, by omega, rfl, HE2, by omega, b1, h7, W7, S7, N0, N1, N2⟩
      · have ej : j = m := by omega
        subst ej
        have hd1 : ¬ ((j : Int) < q.lo) := by omega
        have HE2 : Hid ((st1, (n1, n2)) = bReps (bPiece C) j sa (ya, yb)) := by
          have := HE.out
          rw [Nat.sub_self] at this
          exact this
        obtain ⟨c0, c1, _, _⟩ := L1.two
        obtain ⟨d0, d1, g0, g1⟩ := L2.two
        have FIN := hid (And.intro hB (And.intro hW L2))
        clear hB hW hSm L0 L1 L2 hmi HE
        go_wp2_with fail
        rw [← HE2.out]
        exact exits_fin FIN.out.1 FIN.out.2.1 FIN.out.2.2 (by omega) (by omega) Tryz.results49 rfl rfl
end Go.Proofs.YtnbfddjaonlmaaaGreatDoor
