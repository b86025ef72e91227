/- The builder's choice: parts, one or another. -/
import Derived.Test.YtnbfddjaonlmaaaGreatDoorP21
import Derived.Deep.DeepCutAuto
namespace Go.Proofs.YtnbfddjaonlmaaaGreatDoor
open Go.RowKit Go.Maps
set_option linter.unusedVariables false
set_option maxRecDepth 100000

theorem szs_take (cs : List CT) (i : Nat) (h : i < cs.length) : CT.szs (cs.take (i + 1)) = CT.szs (cs.take i) + (cs[i]).sz := by
  induction cs generalizing i with
  | nil => simp at h
  | cons t ts ih =>
    cases i with
    | zero => simp [CT.szs]
    | succ i =>
      have := ih i (by simpa using h)
      simp only [List.take_succ_cons, CT.szs, List.getElem_cons_succ]
      omega
theorem oks_take : ∀ {cs : List CT}, CT.oks cs → ∀ i, CT.oks (cs.take i)
  | [], _, i => by simp [CT.oks]
  | c :: cs, h, 0 => by simp [CT.oks]
  | c :: cs, h, i + 1 => by
    unfold CT.oks at h
    simp only [List.take_succ_cons]
    unfold CT.oks
    exact ⟨h.1, oks_take h.2 i⟩
theorem oks_get : ∀ {cs : List CT}, CT.oks cs → ∀ i, (h : i < cs.length) → (cs[i]).ok
  | [], _, i, h => by simp at h
  | c :: cs, h, 0, _ => by unfold CT.oks at h; exact h.1
  | c :: cs, h, i + 1, hi => by unfold CT.oks at h; exact oks_get h.2 i (by simpa using hi)
theorem sz_le_szs {cs : List CT} (h : CT.oks cs) (i : Nat) (hi : i < cs.length) : 0 ≤ CT.szs (cs.take i) ∧ 0 ≤ (cs[i]).sz ∧ CT.szs (cs.take i) + (cs[i]).sz ≤ CT.szs cs := by
  have h1 := CT.szs_nonneg _ (oks_take h i)
  have h2 := CT.sz_nonneg _ (oks_get h i hi)
  refine ⟨h1, h2, ?_⟩
  rw [← szs_take cs i hi]
  have : ∀ {cs : List CT}, CT.oks cs → ∀ j, CT.szs (cs.take j) ≤ CT.szs cs := by
    intro cs
    induction cs with
    | nil => intro _ j; simp [CT.szs]
    | cons c cs ih =>
      intro h j
      unfold CT.oks at h
      cases j with
      | zero => simp only [List.take_zero]; exact CT.szs_nonneg (c :: cs) (by unfold CT.oks; exact h)
      | succ j => simp only [List.take_succ_cons, CT.szs]; have := ih h.2 j; omega
  exact this h (i + 1)
theorem bAlt_last {cs : List CT} {n : Nat} (h : cs.length = n + 1) : bAlt (cs.drop n) = bPiece (cs[n]'(by omega)) := by
  rw [List.drop_eq_getElem_cons (by omega), List.drop_of_length_le (by omega)]
  unfold bAlt
  rfl
theorem bAlt_step {cs : List CT} {k : Nat} (h : k + 1 < cs.length) (st : List MS) (nx : Ex) : bAlt (cs.drop k) st nx = bFork (bPiece (cs[k]'(by omega)) (bAlt (cs.drop (k + 1)) st nx).1 nx).1 (bPiece (cs[k]'(by omega)) (bAlt (cs.drop (k + 1)) st nx).1 nx).2 (bAlt (cs.drop (k + 1)) st nx).2 := by
  rw [List.drop_eq_getElem_cons (i := k) (by omega), List.drop_eq_getElem_cons (i := k + 1) h]
  rw [bAlt]

/-- what the regions read: the part number i, and next -/
def ChS (B0 pb i : Nat) (N : Nv) (x1 x2 : Int) (w' : World) : Prop :=
  ((w'.cell? ⟨pb, i * 8, none⟩ = some (.int .i64 N.k) ∧ w'.cell? ⟨pb, i * 8 + 1, none⟩ = some (.slice N.pa N.pn N.pc) ∧ w'.cell? ⟨pb, i * 8 + 2, none⟩ = some (.slice N.sa N.sn N.sc) ∧ w'.cell? ⟨pb, i * 8 + 3, none⟩ = some (.int .i64 N.ed)) ∧
    w'.cell? ⟨pb, i * 8 + 4, none⟩ = some (.int .i64 N.gr) ∧ w'.cell? ⟨pb, i * 8 + 5, none⟩ = some (.int .i64 N.lo) ∧ w'.cell? ⟨pb, i * 8 + 6, none⟩ = some (.int .i64 N.hi) ∧ w'.cell? ⟨pb, i * 8 + 7, none⟩ = some (.bool N.lz)) ∧
  w'.cell? ⟨B0, 0, none⟩ = some (.int .i64 x1) ∧ w'.cell? ⟨B0, 1, none⟩ = some (.int .i64 x2)
theorem ChS.of {W : World} {b B0 pb i : Nat} {v : Value} {N : Nv} {x1 x2 : Int} {t : TypeId} (h : Loc W b v B0 #[.int .i64 x1, .int .i64 x2] t) (hK : KidAt W pb i N) : ChS B0 pb i N x1 x2 W := ⟨hK.eight, h.two.1, h.two.2.1⟩

def ChS2 (B0 A pb i : Nat) (N : Nv) (x1 x2 a1 a2 : Int) (w' : World) : Prop := ChS B0 pb i N x1 x2 w' ∧ w'.cell? ⟨A, 0, none⟩ = some (.int .i64 a1) ∧ w'.cell? ⟨A, 1, none⟩ = some (.int .i64 a2)

set_option maxHeartbeats 4000000 in
theorem choice_rd {w0 w : World} {b lo hi pb n pc : Nat} {v : Value} {st : List MS} {cs : List CT} {V : Nat → Nv} (h : BdAt w b lo hi v st) (x : Ex) (hx : XOk st.length x) (hS : Sames lo hi w0 w) (hlen : cs.length = n + 1) (hn : n ≤ 400) (hok : CT.oks cs) (hsz : CT.szs cs ≤ 1000) (hP : ∀ i, (hi' : i < cs.length) → PcOk b lo hi w0 (V i) cs[i])
    (hpb : lo ≤ pb ∧ pb < hi) (hK : ∀ i, i < n + 1 → KidAt w0 pb i (V i)) (hfew : st.length + 4 * (CT.szs cs).toNat + 2 * n ≤ 9000) :
    Calls Tryz.prog 48 #[.pointer (some ⟨b, 0, none⟩), .slice (some ⟨pb, 0, none⟩) (n + 1) pc, exV x] w (Bdone w b lo hi v (bAlt cs st x).1 (exV (bAlt cs st x).2)) := by
  have hlt := h.blk.lt
  have hib := h.hib
  obtain ⟨x1, x2⟩ := x
  have hpl : pb < w.heap.size := by omega
  have h1 := h.alloc (.cells (exB (x1, x2)) 96)
  have h2 := h1.alloc (.cells (exB (0, 0)) 96)
  have l0 := (Loc.new h (exB (x1, x2)) 96).alloc (.cells (exB (0, 0)) 96)
  have l1 := Loc.new h1 (exB (0, 0)) 96
  have W2 := ((Went.refl b w v).alloc (.cells (exB (x1, x2)) 96)).alloc (.cells (exB (0, 0)) 96)
  have S2 := (hS.alloc (by omega) (.cells (exB (x1, x2)) 96)).alloc (by simp; omega) (.cells (exB (0, 0)) 96)
  simp only [size_alloc0] at l1
  simp only [exB] at l0 l1 h2 W2 S2
  have HK := hid hK
  have HP := hid hP
  have HBS : Hid (∀ i, (hi' : i < cs.length) → BS (bPiece cs[i]) (4 * (cs[i]).sz.toNat)) := fun i hi' => bPiece_bs _ (oks_get hok i hi') (by have := sz_le_szs hok i hi'; omega)
  have HSZ : Hid (∀ i, (hi' : i < cs.length) → 0 ≤ CT.szs (cs.take i) ∧ 0 ≤ (cs[i]).sz ∧ CT.szs (cs.take i) + (cs[i]).sz ≤ CT.szs cs ∧ CT.szs (cs.take (i + 1)) = CT.szs (cs.take i) + (cs[i]).sz) := fun i hi' => ⟨(sz_le_szs hok i hi').1, (sz_le_szs hok i hi').2.1, (sz_le_szs hok i hi').2.2, szs_take cs i hi'⟩
  have HLEN := hid hlen
  -- the world ahead of the first region, behind its draw
  have hB' := h2.new ((Kept.refl Nil _).drew)
  have hW' := W2.new ((Kept.refl Nil _).drew)
  have M0 : Loc ((w.alloc (.cells #[.int .i64 x1, .int .i64 x2] 96)).alloc (.cells #[.int .i64 0, .int .i64 0] 96)).drew b v w.heap.size #[.int .i64 x1, .int .i64 x2] 96 := ⟨l0.blk, l0.not⟩
  have M1 : Loc ((w.alloc (.cells #[.int .i64 x1, .int .i64 x2] 96)).alloc (.cells #[.int .i64 0, .int .i64 0] 96)).drew b v (w.heap.size + 1) #[.int .i64 0, .int .i64 0] 96 := ⟨l1.blk, l1.not⟩
  have hS' : Sames lo hi w0 ((w.alloc (.cells #[.int .i64 x1, .int .i64 x2] 96)).alloc (.cells #[.int .i64 0, .int .i64 0] 96)).drew := S2
  have PS := hid (ChS.of M0 ((hK n (by omega)).sames hS' hpb.1 hpb.2))
  have hz := HSZ.out n (by omega)
  have hbl := HBS.out n (by omega)
  have b1 := hbl.xok st (x1, x2) hx
  have b2 := hbl.few st (x1, x2)
  have b3 := hbl.grow st (x1, x2)
  have EL : bAlt (cs.drop n) st (x1, x2) = bPiece (cs[n]'(by omega)) st (x1, x2) := by rw [bAlt_last hlen]
  have PK := hid (And.intro (And.intro hB' (And.intro hW' hS')) (And.intro M0 M1))
  generalize hD : bPiece (cs[n]'(by omega)) st (x1, x2) = D at *
  obtain ⟨sd, a01, a02⟩ := D
  simp only at b1 b2 b3
  have HD := hid hD
  have HEL := hid EL
  have hfd : sd.length + 4 * (CT.szs (cs.take n)).toNat + 2 * n ≤ 9000 := by omega
  have hsd : st.length ≤ sd.length := b3.1
  have hfp : st.length + 4 * ((cs[n]'(by omega)).sz).toNat ≤ 9000 := by omega
  clear h h1 h2 l0 l1 W2 S2 hS hK hP hbl hD EL hB' hW' hS' M0 M1 b3 hz b2
  simp only [exV]
  go_enter Tryz.func48, Tryz.ntmps48
  go_wp2_with fail
  go_cut [8] (fun s8 wx => ∃ (A : Nat) (v1 : Value), s8 = .pointer (some ⟨A, 0, none⟩) ∧ w.heap.size + 2 ≤ A ∧ BdAt wx b lo hi v1 sd ∧ Went b w wx v v1 ∧ Sames lo hi w0 wx ∧ Loc wx b v1 w.heap.size #[.int .i64 x1, .int .i64 x2] 96 ∧ Loc wx b v1 (w.heap.size + 1) #[.int .i64 0, .int .i64 0] 96 ∧ Loc wx b v1 A #[.int .i64 a01, .int .i64 a02] 96)
  case first =>
    have hni : ¬ ((n : Int) + 1 ≤ (n : Int)) := by omega
    have hnl : n < cs.length := by have := HLEN.out; omega
    refine wp_region_last (S := ChS w.heap.size pb n (V n) x1 x2) 8 (by kernel_rfl) rfl rfl rfl (by kernel_rfl) (by kernel_rfl) ?_
    have hS0 := PS.out
    refine takeH 0 13 (.pointer (some ⟨b, 0, none⟩)) rfl rfl (by kernel_rfl) (by kernel_rfl) (by kernel_rfl) (fun _ _ _ h => h) (Or.inl ⟨by rfl, fun W hSW => by obtain ⟨⟨⟨s2, s3, s4, s5⟩, s6, s7, s8, s9⟩, s10, s11⟩ := hSW; go_simp⟩) hS0 ?_
    refine takeH 1 14 (.slice (some ⟨pb, 0, none⟩) (n + 1) pc) rfl rfl (by kernel_rfl) (by kernel_rfl) (by kernel_rfl) (fun _ _ _ h => h) (Or.inl ⟨by rfl, fun W hSW => by obtain ⟨⟨⟨s2, s3, s4, s5⟩, s6, s7, s8, s9⟩, s10, s11⟩ := hSW; go_simp⟩) hS0 ?_
    refine takeH 2 15 (.int .i64 n) rfl rfl (by kernel_rfl) (by kernel_rfl) (by kernel_rfl) (fun _ _ _ h => h) (Or.inl ⟨by rfl, fun W hSW => by obtain ⟨⟨⟨s2, s3, s4, s5⟩, s6, s7, s8, s9⟩, s10, s11⟩ := hSW; go_simp⟩) hS0 ?_
    refine takeH 3 16 (.pointer (some ⟨pb, n * 8, none⟩)) rfl rfl (by kernel_rfl) (by kernel_rfl) (by kernel_rfl) (fun _ _ _ h => h) (Or.inl ⟨by rfl, fun W hSW => by obtain ⟨⟨⟨s2, s3, s4, s5⟩, s6, s7, s8, s9⟩, s10, s11⟩ := hSW; go_simp⟩) hS0 ?_
    refine takeH 4 17 (.agg #[.int .i64 (V n).k, .slice (V n).pa (V n).pn (V n).pc, .slice (V n).sa (V n).sn (V n).sc, .int .i64 (V n).ed, .int .i64 (V n).gr, .int .i64 (V n).lo, .int .i64 (V n).hi, .bool (V n).lz]) rfl rfl (by kernel_rfl) (by kernel_rfl) (by kernel_rfl) (fun _ _ _ h => h) (Or.inl ⟨by rfl, fun W hSW => by obtain ⟨⟨⟨s2, s3, s4, s5⟩, s6, s7, s8, s9⟩, s10, s11⟩ := hSW; go_simp⟩) hS0 ?_
    refine takeH 5 18 (.agg #[.int .i64 x1, .int .i64 x2]) rfl rfl (by kernel_rfl) (by kernel_rfl) (by kernel_rfl) (fun _ _ _ h => h) (Or.inl ⟨by rfl, fun W hSW => by obtain ⟨⟨⟨s2, s3, s4, s5⟩, s6, s7, s8, s9⟩, s10, s11⟩ := hSW; go_simp⟩) hS0 ?_
    simp only [Act.put, List.setIfInBounds_toArray, List.set_cons_zero, List.set_cons_succ]
    clear PS hni
    refine wpAnyH_ready (rs := [6, 7]) (by kernel_rfl) (by simp) (AllReadyH.cons rfl (fun K hK => ?_) (AllReadyH.cons rfl (fun K hK => ?_) AllReadyH.nil))
    · obtain ⟨⟨hB, hW, hSm⟩, M0, M1⟩ := PK.out
      have F1 := HP.out n hnl _ v st (x1, x2) hB hx hSm hfp
      rw [HD.out] at F1
      simp only [Nv.val, Nv.cells, exV] at F1
      have F1H := hid F1
      clear F1 hB hW hSm M0 M1
      go_simp
      refine (F1H.out).mono ?_
      rintro e w5 ⟨rfl, v5, h5, k5⟩
      dsimp only
      obtain ⟨⟨hB, hW, hSm⟩, M0, M1⟩ := PK.out
      have S5 := hSm.went hB k5
      have m0 := M0.went k5
      have m1 := M1.went k5
      have hS5 := ChS.of m0 ((HK.out n (by omega)).sames S5 hpb.1 hpb.2)
      refine hK.out _ _ hS5 (fun _ => ?_)
      clear hK K
      have sz5 := (hW.trans k5).kept.size
      have hb5 := m1.blk.lt
      have h6 := h5.alloc (.cells #[.int .i64 a01, .int .i64 a02] 96)
      have W6 := (hW.trans k5).alloc (.cells #[.int .i64 a01, .int .i64 a02] 96)
      have S6 := S5.alloc (by omega) (.cells #[.int .i64 a01, .int .i64 a02] 96)
      have N0 := m0.alloc (.cells #[.int .i64 a01, .int .i64 a02] 96)
      have N1 := m1.alloc (.cells #[.int .i64 a01, .int .i64 a02] 96)
      have N2 := Loc.new h5 #[.int .i64 a01, .int .i64 a02] 96
      have hS6 := ChS.of (m0.alloc (.cells #[.int .i64 0, .int .i64 0] 96)) ((HK.out n (by omega)).sames (S5.alloc (by omega) (.cells #[.int .i64 0, .int .i64 0] 96)) hpb.1 hpb.2)
      have PK3 := hid (And.intro (And.intro h6 (And.intro W6 S6)) (And.intro N0 (And.intro N1 N2)))
      have PS6 := hid hS6
      clear hB hW hSm M0 M1 m0 m1 h5 k5 h6 W6 S6 N0 N1 N2 hS6 hS5 S5 hS0 PK F1H
      refine wpAnyH_ready (rs := [7]) (by kernel_rfl) (by simp) (AllReadyH.cons rfl (fun K hK => ?_) AllReadyH.nil)
      go_simp
      refine hK.out _ _ PS6.out (fun _ => ?_)
      clear hK K PS6
      refine wpAnyH_done (by kernel_rfl) ?_ _
      unfold thenLast
      go_wp2_with fail
      go_meet
      case rel =>
        obtain ⟨⟨h6, W6, S6⟩, N0, N1, N2⟩ := PK3.out
        exact ⟨w5.heap.size, v5, rfl, by omega, h6, W6, S6, N0, N1, N2⟩
    · obtain ⟨⟨hB, hW, hSm⟩, M0, M1⟩ := PK.out
      have hB2 := hB.alloc (.cells #[.int .i64 0, .int .i64 0] 96)
      have hW2 := hW.alloc (.cells #[.int .i64 0, .int .i64 0] 96)
      have hS2 := hSm.alloc (by simp; omega) (.cells #[.int .i64 0, .int .i64 0] 96)
      have Q0 := M0.alloc (.cells #[.int .i64 0, .int .i64 0] 96)
      have Q1 := M1.alloc (.cells #[.int .i64 0, .int .i64 0] 96)
      have Q2 := Loc.new hB #[.int .i64 0, .int .i64 0] 96
      have F1 := HP.out n hnl _ v st (x1, x2) hB2 hx hS2 hfp
      rw [HD.out] at F1
      simp only [Nv.val, Nv.cells, exV] at F1
      have F1H := hid F1
      have hS2' := hid (ChS.of Q0 ((HK.out n (by omega)).sames hS2 hpb.1 hpb.2))
      have PK2 := hid (And.intro (And.intro hB2 (And.intro hW2 hS2)) (And.intro Q0 (And.intro Q1 Q2)))
      clear hB hW hSm M0 M1 hB2 hW2 hS2 Q0 Q1 Q2 F1 PK hS0
      go_simp
      refine hK.out _ _ hS2'.out (fun hS3 => ?_)
      clear hK K hS2'
      refine wpAnyH_ready (rs := [6]) (by kernel_rfl) (by simp) (AllReadyH.cons rfl (fun K hK => ?_) AllReadyH.nil)
      go_simp
      refine (F1H.out).mono ?_
      rintro e w5 ⟨rfl, v5, h5, k5⟩
      dsimp only
      obtain ⟨⟨hB, hW, hSm⟩, M0, M1, M2⟩ := PK2.out
      have S5 := hSm.went hB k5
      have m0 := M0.went k5
      have m1 := M1.went k5
      have m2 := M2.went k5
      have m2' : Loc w5 b v5 (w.heap.size + 1 + 1) #[.int .i64 0, .int .i64 0] 96 := by simpa using m2
      have hS5 := ChS.of m0 ((HK.out n (by omega)).sames S5 hpb.1 hpb.2)
      refine hK.out _ _ hS5 (fun _ => ?_)
      clear hK K
      obtain ⟨d0, d1, g0, g1⟩ := m2'.two
      have N0 := (m0.other (d := w.heap.size + 1 + 1) (by omega) 0 (.int .i64 a01)).other (d := w.heap.size + 1 + 1) (by omega) 1 (.int .i64 a02)
      have N1 := (m1.other (d := w.heap.size + 1 + 1) (by omega) 0 (.int .i64 a01)).other (d := w.heap.size + 1 + 1) (by omega) 1 (.int .i64 a02)
      have N2 := (m2'.setCell 0 (.int .i64 a01)).setCell 1 (.int .i64 a02)
      have h6 := (h5.set m2'.not (by omega) 0 (.int .i64 a01)).set m2'.not (by omega) 1 (.int .i64 a02)
      have W6 := ((hW.trans k5).set (c := w.heap.size + 1 + 1) (by omega) 0 (.int .i64 a01)).set (c := w.heap.size + 1 + 1) (by omega) 1 (.int .i64 a02)
      have S6 := (S5.set (c := w.heap.size + 1 + 1) (by omega) 0 (.int .i64 a01)).set (c := w.heap.size + 1 + 1) (by omega) 1 (.int .i64 a02)
      have PK3 := hid (And.intro (And.intro h6 (And.intro W6 S6)) (And.intro N0 (And.intro N1 N2)))
      clear hB hW hSm M0 M1 M2 m0 m1 m2 m2' h5 k5 h6 W6 S6 N0 N1 N2 hS5 S5 hS3 PK2 F1H
      refine wpAnyH_done (by kernel_rfl) ?_ _
      unfold thenLast
      go_wp2_with fail
      go_meet
      case rel =>
        obtain ⟨⟨h6, W6, S6⟩, N0, N1, N2⟩ := PK3.out
        exact ⟨w.heap.size + 1 + 1, v5, rfl, by omega, h6, W6, S6, N0, N1, N2⟩
  case rest =>
    obtain ⟨A, v1, rfl, hA, hB, hW, hSm, L0, L1, L2⟩ := hcut
    clear PK PS
    have hst : st.length ≤ sd.length := hsd
    go_wp2_with fail
    go_loopg [9] n (fun kk i wr => ∃ (k : Nat) (v2 : Value) (st1 : List MS) (a1 a2 : Int), i = .int .i64 ((k : Int) - 1) ∧ k ≤ n ∧ kk = k ∧ Hid (bAlt (cs.drop k) st (x1, x2) = (st1, (a1, a2))) ∧ st.length ≤ st1.length ∧ st1.length + 4 * (CT.szs (cs.take k)).toNat + 2 * k ≤ 9000 ∧ XOk st1.length (a1, a2) ∧
      BdAt wr b lo hi v2 st1 ∧ Went b w wr v v2 ∧ Sames lo hi w0 wr ∧ Loc wr b v2 w.heap.size #[.int .i64 x1, .int .i64 x2] 96 ∧ Loc wr b v2 (w.heap.size + 1) #[.int .i64 0, .int .i64 0] 96 ∧ Loc wr b v2 A #[.int .i64 a1, .int .i64 a2] 96)
    case atStart => exact ⟨n, v1, sd, a01, a02, rfl, Nat.le_refl _, rfl, HEL.out, hsd, hfd, b1, hB, hW, hSm, L0, L1, L2⟩
    case round =>
      obtain ⟨k', v2, st1, a1, a2, rfl, hk, hkk, HE, hge, hfw, hxo, hB2, hW2, hS2, P0, P1, P2⟩ := hrel
      clear hB hW hSm L0 L1 L2
      cases k' with
      | zero =>
        subst hkk
        obtain ⟨c0, c1, _, _⟩ := P2.two
        obtain ⟨d0, d1, g0, g1⟩ := P1.two
        have FIN := hid (And.intro hB2 (And.intro hW2 P1))
        have hd1 : ¬ ((0 : Int) ≤ ((0 : Nat) : Int) - 1) := by omega
        have HE2 : Hid (bAlt cs st (x1, x2) = (st1, (a1, a2))) := HE.out
        clear hB2 hW2 hS2 P0 P1 P2 HE
        go_wp2_with fail
        rw [HE2.out]
        exact exits_fin FIN.out.1 FIN.out.2.1 FIN.out.2.2 (by omega) (by omega) Tryz.results48 rfl rfl
      | succ k =>
        subst hkk
        have hcast : ((k + 1 : Nat) : Int) - 1 = (k : Int) := by omega
        have hkl : k < cs.length := by have := HLEN.out; omega
        have hz := HSZ.out k hkl
        have hbl := HBS.out k hkl
        have c1' := hbl.xok st1 (x1, x2) (hx.mono hge)
        have c2' := hbl.few st1 (x1, x2)
        have c3' := hbl.grow st1 (x1, x2)
        have e3 := fork_grow (bPiece cs[k] st1 (x1, x2)).1 (bPiece cs[k] st1 (x1, x2)).2 (a1, a2)
        have e4 := (fork_ok (st := (bPiece cs[k] st1 (x1, x2)).1) c1'.pair (hxo.mono c3'.1).pair (Or.inl (by have := c1'.1; omega))).1
        have HE2 : Hid (bAlt (cs.drop k) st (x1, x2) = bFork (bPiece cs[k] st1 (x1, x2)).1 (bPiece cs[k] st1 (x1, x2)).2 (a1, a2)) := by
          have := HE.out
          show _ = _
          rw [bAlt_step (k := k) (by have := HLEN.out; omega), this]
        have hB' := hB2.new ((Kept.refl Nil wr).drew)
        have hW' := hW2.new ((Kept.refl Nil wr).drew)
        have hS' : Sames lo hi w0 wr.drew := hS2
        have M0 : Loc wr.drew b v2 w.heap.size #[.int .i64 x1, .int .i64 x2] 96 := ⟨P0.blk, P0.not⟩
        have M1 : Loc wr.drew b v2 (w.heap.size + 1) #[.int .i64 0, .int .i64 0] 96 := ⟨P1.blk, P1.not⟩
        have M2 : Loc wr.drew b v2 A #[.int .i64 a1, .int .i64 a2] 96 := ⟨P2.blk, P2.not⟩
        have PS : Hid (ChS2 w.heap.size A pb k (V k) x1 x2 a1 a2 wr.drew) := ⟨ChS.of M0 ((HK.out k (by omega)).sames hS' hpb.1 hpb.2), M2.two.1, M2.two.2.1⟩
        have F1 := HP.out k hkl wr.drew v2 st1 (x1, x2) hB' (hx.mono hge) hS' (by omega)
        simp only [Nv.val, Nv.cells, exV] at F1
        have F1H := hid F1
        have PK := hid (And.intro (And.intro hB' (And.intro hW' hS')) (And.intro M0 (And.intro M1 M2)))
        have hki : ¬ ((n : Int) + 1 ≤ (k : Int)) := by omega
        clear hB2 hW2 hS2 P0 P1 P2 hB' hW' hS' M0 M1 M2 F1 HE hbl
        go_wp2_with fail
        refine wp_region_last (S := ChS2 w.heap.size A pb k (V k) x1 x2 a1 a2) 10 (by kernel_rfl) rfl rfl rfl (by kernel_rfl) (by kernel_rfl) ?_
        have hS0 := PS.out
        refine takeH 0 26 (.pointer (some ⟨b, 0, none⟩)) rfl rfl (by kernel_rfl) (by kernel_rfl) (by kernel_rfl) (fun _ _ _ h => h) (Or.inl ⟨by rfl, fun W hSW => by obtain ⟨⟨⟨⟨s2, s3, s4, s5⟩, s6, s7, s8, s9⟩, s10, s11⟩, s12, s13⟩ := hSW; go_simp⟩) hS0 ?_
        refine takeH 1 27 (.pointer (some ⟨b, 0, none⟩)) rfl rfl (by kernel_rfl) (by kernel_rfl) (by kernel_rfl) (fun _ _ _ h => h) (Or.inl ⟨by rfl, fun W hSW => by obtain ⟨⟨⟨⟨s2, s3, s4, s5⟩, s6, s7, s8, s9⟩, s10, s11⟩, s12, s13⟩ := hSW; go_simp⟩) hS0 ?_
        refine takeH 2 28 (.slice (some ⟨pb, 0, none⟩) (n + 1) pc) rfl rfl (by kernel_rfl) (by kernel_rfl) (by kernel_rfl) (fun _ _ _ h => h) (Or.inl ⟨by rfl, fun W hSW => by obtain ⟨⟨⟨⟨s2, s3, s4, s5⟩, s6, s7, s8, s9⟩, s10, s11⟩, s12, s13⟩ := hSW; go_simp⟩) hS0 ?_
        refine takeH 3 29 (.int .i64 k) rfl rfl (by kernel_rfl) (by kernel_rfl) (by kernel_rfl) (fun _ _ _ h => h) (Or.inl ⟨by rfl, fun W hSW => by obtain ⟨⟨⟨⟨s2, s3, s4, s5⟩, s6, s7, s8, s9⟩, s10, s11⟩, s12, s13⟩ := hSW; go_simp⟩) hS0 ?_
        refine takeH 4 30 (.pointer (some ⟨pb, k * 8, none⟩)) rfl rfl (by kernel_rfl) (by kernel_rfl) (by kernel_rfl) (fun _ _ _ h => h) (Or.inl ⟨by rfl, fun W hSW => by obtain ⟨⟨⟨⟨s2, s3, s4, s5⟩, s6, s7, s8, s9⟩, s10, s11⟩, s12, s13⟩ := hSW; go_simp⟩) hS0 ?_
        refine takeH 5 31 (.agg #[.int .i64 (V k).k, .slice (V k).pa (V k).pn (V k).pc, .slice (V k).sa (V k).sn (V k).sc, .int .i64 (V k).ed, .int .i64 (V k).gr, .int .i64 (V k).lo, .int .i64 (V k).hi, .bool (V k).lz]) rfl rfl (by kernel_rfl) (by kernel_rfl) (by kernel_rfl) (fun _ _ _ h => h) (Or.inl ⟨by rfl, fun W hSW => by obtain ⟨⟨⟨⟨s2, s3, s4, s5⟩, s6, s7, s8, s9⟩, s10, s11⟩, s12, s13⟩ := hSW; go_simp⟩) hS0 ?_
        refine takeH 6 32 (.agg #[.int .i64 x1, .int .i64 x2]) rfl rfl (by kernel_rfl) (by kernel_rfl) (by kernel_rfl) (fun _ _ _ h => h) (Or.inl ⟨by rfl, fun W hSW => by obtain ⟨⟨⟨⟨s2, s3, s4, s5⟩, s6, s7, s8, s9⟩, s10, s11⟩, s12, s13⟩ := hSW; go_simp⟩) hS0 ?_
        refine takeH 8 34 (.agg #[.int .i64 a1, .int .i64 a2]) rfl rfl (by kernel_rfl) (by kernel_rfl) (by kernel_rfl) (fun _ _ _ h => h) (Or.inl ⟨by rfl, fun W hSW => by obtain ⟨⟨⟨⟨s2, s3, s4, s5⟩, s6, s7, s8, s9⟩, s10, s11⟩, s12, s13⟩ := hSW; go_simp⟩) hS0 ?_
        simp only [Act.put, List.setIfInBounds_toArray, List.set_cons_zero, List.set_cons_succ]
        refine wpAnyH_ready (rs := [7]) (by kernel_rfl) (by simp) (AllReadyH.cons rfl (fun K hK => ?_) AllReadyH.nil)
        go_simp
        refine (F1H.out).mono ?_
        rintro e w5 ⟨rfl, v5, h5, k5⟩
        dsimp only
        obtain ⟨⟨hB, hW, hSm⟩, M0, M1, M2⟩ := PK.out
        have S5 := hSm.went hB k5
        have m0 := M0.went k5
        have m1 := M1.went k5
        have m2 := M2.went k5
        have hS5 : ChS2 w.heap.size A pb k (V k) x1 x2 a1 a2 w5 := ⟨ChS.of m0 ((HK.out k (by omega)).sames S5 hpb.1 hpb.2), m2.two.1, m2.two.2.1⟩
        refine hK.out _ _ hS5 (fun _ => ?_)
        clear hK K
        have F2 := fork_rd h5 (bPiece cs[k] st1 (x1, x2)).2 (a1, a2) (by omega)
        simp only [exV] at F2
        have F2H := hid F2
        have PK2 := hid (And.intro (And.intro h5 (And.intro (hW.trans k5) S5)) (And.intro m0 (And.intro m1 m2)))
        clear hB hW hSm M0 M1 M2 m0 m1 m2 h5 k5 hS5 S5 hS0 PK F1H F2 PS
        refine wpAnyH_ready (rs := [9]) (by kernel_rfl) (by simp) (AllReadyH.cons rfl (fun K hK => ?_) AllReadyH.nil)
        go_simp
        refine (F2H.out).mono ?_
        rintro e w6 ⟨rfl, v6, h6, k6⟩
        dsimp only
        obtain ⟨⟨hB, hW, hSm⟩, M0, M1, M2⟩ := PK2.out
        have S6 := hSm.went hB k6
        have m0 := M0.went k6
        have m1 := M1.went k6
        have m2 := M2.went k6
        have hS6 : ChS2 w.heap.size A pb k (V k) x1 x2 a1 a2 w6 := ⟨ChS.of m0 ((HK.out k (by omega)).sames S6 hpb.1 hpb.2), m2.two.1, m2.two.2.1⟩
        refine hK.out _ _ hS6 (fun _ => ?_)
        clear hK K
        obtain ⟨d0, d1, g0, g1⟩ := m2.two
        generalize hE : bFork (bPiece cs[k] st1 (x1, x2)).1 (bPiece cs[k] st1 (x1, x2)).2 (a1, a2) = E at *
        obtain ⟨st2, y1, y2⟩ := E
        simp only at e3 e4 h6
        have N0 := (m0.other (d := A) (by omega) 0 (.int .i64 y1)).other (d := A) (by omega) 1 (.int .i64 y2)
        have N1 := (m1.other (d := A) (by omega) 0 (.int .i64 y1)).other (d := A) (by omega) 1 (.int .i64 y2)
        have N2 := (m2.setCell 0 (.int .i64 y1)).setCell 1 (.int .i64 y2)
        have h7 := (h6.set m2.not (by omega) 0 (.int .i64 y1)).set m2.not (by omega) 1 (.int .i64 y2)
        have W7 := ((hW.trans k6).set (c := A) (by omega) 0 (.int .i64 y1)).set (c := A) (by omega) 1 (.int .i64 y2)
        have S7 := (S6.set (c := A) (by omega) 0 (.int .i64 y1)).set (c := A) (by omega) 1 (.int .i64 y2)
        have PK3 := hid (And.intro (And.intro h7 (And.intro W7 S7)) (And.intro N0 (And.intro N1 N2)))
        clear hB hW hSm M0 M1 M2 m0 m1 m2 h6 k6 h7 W7 S7 N0 N1 N2 hS6 S6 PK2 F2H hE
        refine wpAnyH_done (by kernel_rfl) ?_ _
        unfold thenLast
        go_wp2_with fail
        go_roundg k
        case measure => omega
        case rel =>
          obtain ⟨⟨h7, W7, S7⟩, N0, N1, N2⟩ := PK3.out
          exact ⟨k, v6, st2, y1, y2, rfl, by omega, rfl, HE2, by omega, by omega, e4, h7, W7, S7, N0, N1, N2⟩
end Go.Proofs.YtnbfddjaonlmaaaGreatDoor
