/- The builder's piece does what the mirror says, whatever the piece. -/
import Derived.Test.YtnbfddjaonlmaaaGreatDoorP22
namespace Go.Proofs.YtnbfddjaonlmaaaGreatDoor
open Go.RowKit Go.Maps
set_option linter.unusedVariables false
set_option maxRecDepth 100000

theorem Cells32.sames {lo hi bs : Nat} {w0 w : World} {S : Spans} (h : Cells32 w0 bs S) (hs : Sames lo hi w0 w) (hb : S ≠ [] → lo ≤ bs ∧ bs < hi) : Cells32 w bs S := fun i hi' => by
  have hne : S ≠ [] := by intro e; subst e; simp at hi'
  obtain ⟨b1, b2⟩ := hb hne
  exact ⟨(hs.cell b1 b2).trans (h i hi').1, (hs.cell b1 b2).trans (h i hi').2⟩
theorem bSeq_step {cs : List CT} {k : Nat} (h : k < cs.length) (st : List MS) (nx : Ex) : bSeq (cs.drop k) st nx = bPiece cs[k] (bSeq (cs.drop (k + 1)) st nx).1 (bSeq (cs.drop (k + 1)) st nx).2 := by
  rw [List.drop_eq_getElem_cons h]
  rw [bSeq]
theorem bOne_get {cs : List CT} (h : cs.length = 1) : bOne cs = bPiece (cs[0]'(by omega)) := by
  match cs, h with
  | [c], _ => rw [bOne]; rfl
theorem szs_one {cs : List CT} (h : cs.length = 1) : CT.szs cs = (cs[0]'(by omega)).sz := by
  match cs, h with
  | [c], _ => simp [CT.szs]

/-- what the loop over a row reads: the part number i, the row, and next -/
def SeqS (B0 pb i : Nat) (pn pc : Nat) (N : Nv) (x1 x2 : Int) (w' : World) : Prop := ChS (B0 + 1) pb i N x1 x2 w' ∧ w'.cell? ⟨B0, 1, none⟩ = some (.slice (some ⟨pb, 0, none⟩) pn pc)
-- BODY

set_option maxHeartbeats 1000000 in
theorem piece_take {w0 w : World} {b lo hi : Nat} {v : Value} {st : List MS} {qpa : Option Addr} {qpn qpc : Nat} {qsa : Option Addr} {qsn qsc : Nat} {qed qgr qlo qhi : Int} {qlz : Bool} (h : BdAt w b lo hi v st) (x : Ex) (hS : Sames lo hi w0 w) {m : Int → MS} (hm : ∀ W n, Sames lo hi w0 W → SvAt W lo hi ⟨1, qsa, qsn, qsc, 0, 0, n, 0⟩ (m n)) (hfew : st.length < 10000) :
    Calls Tryz.prog 34 #[.pointer (some ⟨b, 0, none⟩), Nv.val ⟨0, qpa, qpn, qpc, qsa, qsn, qsc, qed, qgr, qlo, qhi, qlz⟩, exV x] w (Bdone w b lo hi v (st ++ [m x.2]) (exV (st.length, st.length))) := by
  have hlt := h.blk.lt
  have hib := h.hib
  obtain ⟨x1, x2⟩ := x
  have h1 := h.alloc (.cells #[.int .i64 0, .slice qpa qpn qpc, .slice qsa qsn qsc, .int .i64 qed, .int .i64 qgr, .int .i64 qlo, .int .i64 qhi, .bool qlz] 56)
  have h2 := h1.alloc (.cells (exB (x1, x2)) 96)
  have h3 := h2.alloc (.cells (exB (0, 0)) 96)
  have l0 := ((Loc.new h #[.int .i64 0, .slice qpa qpn qpc, .slice qsa qsn qsc, .int .i64 qed, .int .i64 qgr, .int .i64 qlo, .int .i64 qhi, .bool qlz] 56).alloc (.cells (exB (x1, x2)) 96)).alloc (.cells (exB (0, 0)) 96)
  have l1 := (Loc.new h1 (exB (x1, x2)) 96).alloc (.cells (exB (0, 0)) 96)
  have l2 := Loc.new h2 (exB (0, 0)) 96
  have W3 := (((Went.refl b w v).alloc (.cells #[.int .i64 0, .slice qpa qpn qpc, .slice qsa qsn qsc, .int .i64 qed, .int .i64 qgr, .int .i64 qlo, .int .i64 qhi, .bool qlz] 56)).alloc (.cells (exB (x1, x2)) 96)).alloc (.cells (exB (0, 0)) 96)
  have S3 := ((hS.alloc (by omega) (.cells #[.int .i64 0, .slice qpa qpn qpc, .slice qsa qsn qsc, .int .i64 qed, .int .i64 qgr, .int .i64 qlo, .int .i64 qhi, .bool qlz] 56)).alloc (by simp; omega) (.cells (exB (x1, x2)) 96)).alloc (by simp; omega) (.cells (exB (0, 0)) 96)
  simp only [size_alloc0] at l1 l2
  simp only [exB] at l0 l1 l2 h3 W3 S3
  simp only [Nv.val, Nv.cells, exV]
  have F1 := add_rd h3 (hm _ x2 S3) hfew
  simp only [Sv.val, Sv.cells] at F1
  have F1 := hid F1
  have PK := hid (And.intro l2 W3)
  clear h h1 h2 h3 l0 l1 l2 W3 S3 hS hm
  go_enter Tryz.func34, Tryz.ntmps34
  go_wp2_with fail
  refine (F1.out).mono ?_
  rintro e w4 ⟨rfl, v4, h4, k4'⟩
  have m2 := PK.out.1.went k4'
  obtain ⟨c0, c1, f0, f1⟩ := m2.two
  have FIN := hid (And.intro h4 (And.intro (PK.out.2.trans k4') m2))
  clear m2 h4 k4' F1 PK
  go_wp2_with fail
  exact exits_fin FIN.out.1 FIN.out.2.1 FIN.out.2.2 (by omega) (by omega) Tryz.results34 rfl rfl


set_option maxHeartbeats 1000000 in
theorem piece_stand {w0 w : World} {b lo hi : Nat} {v : Value} {st : List MS} {qpa : Option Addr} {qpn qpc : Nat} {qsa : Option Addr} {qsn qsc : Nat} {qed qgr qlo qhi : Int} {qlz : Bool} (h : BdAt w b lo hi v st) (x : Ex) (hS : Sames lo hi w0 w) (hfew : st.length + 2 ≤ 10000) :
    Calls Tryz.prog 34 #[.pointer (some ⟨b, 0, none⟩), Nv.val ⟨1, qpa, qpn, qpc, qsa, qsn, qsc, qed, qgr, qlo, qhi, qlz⟩, exV x] w (Bdone w b lo hi v (bLead (standS qed) st x).1 (exV (bLead (standS qed) st x).2)) := by
  have hlt := h.blk.lt
  have hib := h.hib
  obtain ⟨x1, x2⟩ := x
  have h1 := h.alloc (.cells #[.int .i64 1, .slice qpa qpn qpc, .slice qsa qsn qsc, .int .i64 qed, .int .i64 qgr, .int .i64 qlo, .int .i64 qhi, .bool qlz] 56)
  have h2 := h1.alloc (.cells (exB (x1, x2)) 96)
  have h3 := h2.alloc (.cells (exB (0, 0)) 96)
  have l0 := ((Loc.new h #[.int .i64 1, .slice qpa qpn qpc, .slice qsa qsn qsc, .int .i64 qed, .int .i64 qgr, .int .i64 qlo, .int .i64 qhi, .bool qlz] 56).alloc (.cells (exB (x1, x2)) 96)).alloc (.cells (exB (0, 0)) 96)
  have l1 := (Loc.new h1 (exB (x1, x2)) 96).alloc (.cells (exB (0, 0)) 96)
  have l2 := Loc.new h2 (exB (0, 0)) 96
  have W3 := (((Went.refl b w v).alloc (.cells #[.int .i64 1, .slice qpa qpn qpc, .slice qsa qsn qsc, .int .i64 qed, .int .i64 qgr, .int .i64 qlo, .int .i64 qhi, .bool qlz] 56)).alloc (.cells (exB (x1, x2)) 96)).alloc (.cells (exB (0, 0)) 96)
  have S3 := ((hS.alloc (by omega) (.cells #[.int .i64 1, .slice qpa qpn qpc, .slice qsa qsn qsc, .int .i64 qed, .int .i64 qgr, .int .i64 qlo, .int .i64 qhi, .bool qlz] 56)).alloc (by simp; omega) (.cells (exB (x1, x2)) 96)).alloc (by simp; omega) (.cells (exB (0, 0)) 96)
  simp only [size_alloc0] at l1 l2
  simp only [exB] at l0 l1 l2 h3 W3 S3
  simp only [Nv.val, Nv.cells, exV]
  have F1 := lead_rd h3 ⟨2, none, 0, 0, qed, 0, 0, 0⟩ (standS qed) (fun W n => SvAt.stand W lo hi _ n) (x1, x2) (by omega)
  simp only [Sv.val, Sv.cells, exV] at F1
  have F1 := hid F1
  have PK := hid (And.intro l2 W3)
  clear h h1 h2 h3 l0 l1 l2 W3 S3 hS
  go_enter Tryz.func34, Tryz.ntmps34
  go_wp2_with fail
  refine (F1.out).mono ?_
  rintro e w4 ⟨rfl, v4, h4, k4'⟩
  have m2 := PK.out.1.went k4'
  obtain ⟨c0, c1, f0, f1⟩ := m2.two
  have FIN := hid (And.intro h4 (And.intro (PK.out.2.trans k4') m2))
  clear m2 h4 k4' F1 PK
  go_wp2_with fail
  exact exits_fin FIN.out.1 FIN.out.2.1 FIN.out.2.2 (by omega) (by omega) Tryz.results34 rfl rfl


set_option maxHeartbeats 1000000 in
theorem piece_bracket {w0 w : World} {b lo hi : Nat} {v : Value} {st : List MS} {qpa : Option Addr} {qpn qpc : Nat} {qsa : Option Addr} {qsn qsc : Nat} {qed qgr qlo qhi : Int} {qlz : Bool} (h : BdAt w b lo hi v st) (x : Ex) (hS : Sames lo hi w0 w) {R : List MS × Ex} (hF : ∀ W, BdAt W b lo hi v st → Sames lo hi w0 W → Calls Tryz.prog 47 #[.pointer (some ⟨b, 0, none⟩), Nv.val ⟨2, qpa, qpn, qpc, qsa, qsn, qsc, qed, qgr, qlo, qhi, qlz⟩, exV x] W (Bdone W b lo hi v R.1 (exV R.2))) :
    Calls Tryz.prog 34 #[.pointer (some ⟨b, 0, none⟩), Nv.val ⟨2, qpa, qpn, qpc, qsa, qsn, qsc, qed, qgr, qlo, qhi, qlz⟩, exV x] w (Bdone w b lo hi v R.1 (exV R.2)) := by
  have hlt := h.blk.lt
  have hib := h.hib
  obtain ⟨x1, x2⟩ := x
  have h1 := h.alloc (.cells #[.int .i64 2, .slice qpa qpn qpc, .slice qsa qsn qsc, .int .i64 qed, .int .i64 qgr, .int .i64 qlo, .int .i64 qhi, .bool qlz] 56)
  have h2 := h1.alloc (.cells (exB (x1, x2)) 96)
  have h3 := h2.alloc (.cells (exB (0, 0)) 96)
  have l0 := ((Loc.new h #[.int .i64 2, .slice qpa qpn qpc, .slice qsa qsn qsc, .int .i64 qed, .int .i64 qgr, .int .i64 qlo, .int .i64 qhi, .bool qlz] 56).alloc (.cells (exB (x1, x2)) 96)).alloc (.cells (exB (0, 0)) 96)
  have l1 := (Loc.new h1 (exB (x1, x2)) 96).alloc (.cells (exB (0, 0)) 96)
  have l2 := Loc.new h2 (exB (0, 0)) 96
  have W3 := (((Went.refl b w v).alloc (.cells #[.int .i64 2, .slice qpa qpn qpc, .slice qsa qsn qsc, .int .i64 qed, .int .i64 qgr, .int .i64 qlo, .int .i64 qhi, .bool qlz] 56)).alloc (.cells (exB (x1, x2)) 96)).alloc (.cells (exB (0, 0)) 96)
  have S3 := ((hS.alloc (by omega) (.cells #[.int .i64 2, .slice qpa qpn qpc, .slice qsa qsn qsc, .int .i64 qed, .int .i64 qgr, .int .i64 qlo, .int .i64 qhi, .bool qlz] 56)).alloc (by simp; omega) (.cells (exB (x1, x2)) 96)).alloc (by simp; omega) (.cells (exB (0, 0)) 96)
  simp only [size_alloc0] at l1 l2
  simp only [exB] at l0 l1 l2 h3 W3 S3
  obtain ⟨st4, r1, r2⟩ := R
  simp only [Nv.val, Nv.cells, exV]
  have F1 := hF _ h3 S3
  simp only [Nv.val, Nv.cells, exV] at F1
  have F1 := hid F1
  have PK := hid (And.intro l2 W3)
  clear h h1 h2 h3 l0 l1 l2 W3 S3 hS hF
  go_enter Tryz.func34, Tryz.ntmps34
  go_wp2_with fail
  refine (F1.out).mono ?_
  rintro e w4 ⟨rfl, v4, h4, k4'⟩
  have m2 := PK.out.1.went k4'
  obtain ⟨c0, c1, f0, f1⟩ := m2.two
  have FIN := hid (And.intro h4 (And.intro (PK.out.2.trans k4') m2))
  clear m2 h4 k4' F1 PK
  go_wp2_with fail
  exact exits_fin FIN.out.1 FIN.out.2.1 FIN.out.2.2 (by omega) (by omega) Tryz.results34 rfl rfl


set_option maxHeartbeats 1000000 in
theorem piece_choice {w0 w : World} {b lo hi : Nat} {v : Value} {st : List MS} {qpa : Option Addr} {qpn qpc : Nat} {qsa : Option Addr} {qsn qsc : Nat} {qed qgr qlo qhi : Int} {qlz : Bool} (h : BdAt w b lo hi v st) (x : Ex) (hS : Sames lo hi w0 w) {R : List MS × Ex} (hF : ∀ W, BdAt W b lo hi v st → Sames lo hi w0 W → Calls Tryz.prog 48 #[.pointer (some ⟨b, 0, none⟩), .slice qpa qpn qpc, exV x] W (Bdone W b lo hi v R.1 (exV R.2))) :
    Calls Tryz.prog 34 #[.pointer (some ⟨b, 0, none⟩), Nv.val ⟨4, qpa, qpn, qpc, qsa, qsn, qsc, qed, qgr, qlo, qhi, qlz⟩, exV x] w (Bdone w b lo hi v R.1 (exV R.2)) := by
  have hlt := h.blk.lt
  have hib := h.hib
  obtain ⟨x1, x2⟩ := x
  have h1 := h.alloc (.cells #[.int .i64 4, .slice qpa qpn qpc, .slice qsa qsn qsc, .int .i64 qed, .int .i64 qgr, .int .i64 qlo, .int .i64 qhi, .bool qlz] 56)
  have h2 := h1.alloc (.cells (exB (x1, x2)) 96)
  have h3 := h2.alloc (.cells (exB (0, 0)) 96)
  have l0 := ((Loc.new h #[.int .i64 4, .slice qpa qpn qpc, .slice qsa qsn qsc, .int .i64 qed, .int .i64 qgr, .int .i64 qlo, .int .i64 qhi, .bool qlz] 56).alloc (.cells (exB (x1, x2)) 96)).alloc (.cells (exB (0, 0)) 96)
  have l1 := (Loc.new h1 (exB (x1, x2)) 96).alloc (.cells (exB (0, 0)) 96)
  have l2 := Loc.new h2 (exB (0, 0)) 96
  have W3 := (((Went.refl b w v).alloc (.cells #[.int .i64 4, .slice qpa qpn qpc, .slice qsa qsn qsc, .int .i64 qed, .int .i64 qgr, .int .i64 qlo, .int .i64 qhi, .bool qlz] 56)).alloc (.cells (exB (x1, x2)) 96)).alloc (.cells (exB (0, 0)) 96)
  have S3 := ((hS.alloc (by omega) (.cells #[.int .i64 4, .slice qpa qpn qpc, .slice qsa qsn qsc, .int .i64 qed, .int .i64 qgr, .int .i64 qlo, .int .i64 qhi, .bool qlz] 56)).alloc (by simp; omega) (.cells (exB (x1, x2)) 96)).alloc (by simp; omega) (.cells (exB (0, 0)) 96)
  simp only [size_alloc0] at l1 l2
  simp only [exB] at l0 l1 l2 h3 W3 S3
  obtain ⟨st4, r1, r2⟩ := R
  simp only [Nv.val, Nv.cells, exV]
  have F1 := hF _ h3 S3
  simp only [exV] at F1
  have F1 := hid F1
  have PK := hid (And.intro l2 W3)
  clear h h1 h2 h3 l0 l1 l2 W3 S3 hS hF
  go_enter Tryz.func34, Tryz.ntmps34
  go_wp2_with fail
  refine (F1.out).mono ?_
  rintro e w4 ⟨rfl, v4, h4, k4'⟩
  have m2 := PK.out.1.went k4'
  obtain ⟨c0, c1, f0, f1⟩ := m2.two
  have FIN := hid (And.intro h4 (And.intro (PK.out.2.trans k4') m2))
  clear m2 h4 k4' F1 PK
  go_wp2_with fail
  exact exits_fin FIN.out.1 FIN.out.2.1 FIN.out.2.2 (by omega) (by omega) Tryz.results34 rfl rfl


set_option maxHeartbeats 1000000 in
theorem piece_times {w0 w : World} {b lo hi : Nat} {v : Value} {st : List MS} {qpa : Option Addr} {qpn qpc : Nat} {qsa : Option Addr} {qsn qsc : Nat} {qed qgr qlo qhi : Int} {qlz : Bool} (h : BdAt w b lo hi v st) (x : Ex) (hS : Sames lo hi w0 w) {R : List MS × Ex} (hF : ∀ W, BdAt W b lo hi v st → Sames lo hi w0 W → Calls Tryz.prog 49 #[.pointer (some ⟨b, 0, none⟩), Nv.val ⟨5, qpa, qpn, qpc, qsa, qsn, qsc, qed, qgr, qlo, qhi, qlz⟩, exV x] W (Bdone W b lo hi v R.1 (exV R.2))) :
    Calls Tryz.prog 34 #[.pointer (some ⟨b, 0, none⟩), Nv.val ⟨5, qpa, qpn, qpc, qsa, qsn, qsc, qed, qgr, qlo, qhi, qlz⟩, exV x] w (Bdone w b lo hi v R.1 (exV R.2)) := by
  have hlt := h.blk.lt
  have hib := h.hib
  obtain ⟨x1, x2⟩ := x
  have h1 := h.alloc (.cells #[.int .i64 5, .slice qpa qpn qpc, .slice qsa qsn qsc, .int .i64 qed, .int .i64 qgr, .int .i64 qlo, .int .i64 qhi, .bool qlz] 56)
  have h2 := h1.alloc (.cells (exB (x1, x2)) 96)
  have h3 := h2.alloc (.cells (exB (0, 0)) 96)
  have l0 := ((Loc.new h #[.int .i64 5, .slice qpa qpn qpc, .slice qsa qsn qsc, .int .i64 qed, .int .i64 qgr, .int .i64 qlo, .int .i64 qhi, .bool qlz] 56).alloc (.cells (exB (x1, x2)) 96)).alloc (.cells (exB (0, 0)) 96)
  have l1 := (Loc.new h1 (exB (x1, x2)) 96).alloc (.cells (exB (0, 0)) 96)
  have l2 := Loc.new h2 (exB (0, 0)) 96
  have W3 := (((Went.refl b w v).alloc (.cells #[.int .i64 5, .slice qpa qpn qpc, .slice qsa qsn qsc, .int .i64 qed, .int .i64 qgr, .int .i64 qlo, .int .i64 qhi, .bool qlz] 56)).alloc (.cells (exB (x1, x2)) 96)).alloc (.cells (exB (0, 0)) 96)
  have S3 := ((hS.alloc (by omega) (.cells #[.int .i64 5, .slice qpa qpn qpc, .slice qsa qsn qsc, .int .i64 qed, .int .i64 qgr, .int .i64 qlo, .int .i64 qhi, .bool qlz] 56)).alloc (by simp; omega) (.cells (exB (x1, x2)) 96)).alloc (by simp; omega) (.cells (exB (0, 0)) 96)
  simp only [size_alloc0] at l1 l2
  simp only [exB] at l0 l1 l2 h3 W3 S3
  obtain ⟨st4, r1, r2⟩ := R
  simp only [Nv.val, Nv.cells, exV]
  have F1 := hF _ h3 S3
  simp only [Nv.val, Nv.cells, exV] at F1
  have F1 := hid F1
  have PK := hid (And.intro l2 W3)
  clear h h1 h2 h3 l0 l1 l2 W3 S3 hS hF
  go_enter Tryz.func34, Tryz.ntmps34
  go_wp2_with fail
  refine (F1.out).mono ?_
  rintro e w4 ⟨rfl, v4, h4, k4'⟩
  have m2 := PK.out.1.went k4'
  obtain ⟨c0, c1, f0, f1⟩ := m2.two
  have FIN := hid (And.intro h4 (And.intro (PK.out.2.trans k4') m2))
  clear m2 h4 k4' F1 PK
  go_wp2_with fail
  exact exits_fin FIN.out.1 FIN.out.2.1 FIN.out.2.2 (by omega) (by omega) Tryz.results34 rfl rfl


set_option maxHeartbeats 4000000 in
theorem piece_seq {w0 w : World} {b lo hi : Nat} {v : Value} {st : List MS} {qpa : Option Addr} {qpn qpc : Nat} {qsa : Option Addr} {qsn qsc : Nat} {qed qgr qlo qhi : Int} {qlz : Bool} (h : BdAt w b lo hi v st) (x : Ex) (hS : Sames lo hi w0 w) {pb n : Nat} {cs : List CT} {V : Nat → Nv} (hx : XOk st.length x) (hlen : cs.length = n) (hn : n ≤ 400) (hok : CT.oks cs) (hsz : CT.szs cs ≤ 1000) (hP : ∀ i, (hi' : i < cs.length) → PcOk b lo hi w0 (V i) cs[i])
    (hpn : qpn = n) (hpb : 0 < n → qpa = some ⟨pb, 0, none⟩ ∧ lo ≤ pb ∧ pb < hi) (hK : ∀ i, i < n → KidAt w0 pb i (V i)) (hfew : st.length + 4 * (CT.szs cs).toNat ≤ 9000) :
    Calls Tryz.prog 34 #[.pointer (some ⟨b, 0, none⟩), Nv.val ⟨3, qpa, qpn, qpc, qsa, qsn, qsc, qed, qgr, qlo, qhi, qlz⟩, exV x] w (Bdone w b lo hi v (bSeq cs st x).1 (exV (bSeq cs st x).2)) := by
  have hlt := h.blk.lt
  have hib := h.hib
  obtain ⟨x1, x2⟩ := x
  have h1 := h.alloc (.cells #[.int .i64 3, .slice qpa qpn qpc, .slice qsa qsn qsc, .int .i64 qed, .int .i64 qgr, .int .i64 qlo, .int .i64 qhi, .bool qlz] 56)
  have h2 := h1.alloc (.cells (exB (x1, x2)) 96)
  have h3 := h2.alloc (.cells (exB (0, 0)) 96)
  have l0 := ((Loc.new h #[.int .i64 3, .slice qpa qpn qpc, .slice qsa qsn qsc, .int .i64 qed, .int .i64 qgr, .int .i64 qlo, .int .i64 qhi, .bool qlz] 56).alloc (.cells (exB (x1, x2)) 96)).alloc (.cells (exB (0, 0)) 96)
  have l1 := (Loc.new h1 (exB (x1, x2)) 96).alloc (.cells (exB (0, 0)) 96)
  have l2 := Loc.new h2 (exB (0, 0)) 96
  have W3 := (((Went.refl b w v).alloc (.cells #[.int .i64 3, .slice qpa qpn qpc, .slice qsa qsn qsc, .int .i64 qed, .int .i64 qgr, .int .i64 qlo, .int .i64 qhi, .bool qlz] 56)).alloc (.cells (exB (x1, x2)) 96)).alloc (.cells (exB (0, 0)) 96)
  have S3 := ((hS.alloc (by omega) (.cells #[.int .i64 3, .slice qpa qpn qpc, .slice qsa qsn qsc, .int .i64 qed, .int .i64 qgr, .int .i64 qlo, .int .i64 qhi, .bool qlz] 56)).alloc (by simp; omega) (.cells (exB (x1, x2)) 96)).alloc (by simp; omega) (.cells (exB (0, 0)) 96)
  simp only [size_alloc0] at l1 l2
  simp only [exB] at l0 l1 l2 h3 W3 S3
  subst hpn
  have HK := hid hK
  have HP := hid hP
  have HBS : Hid (∀ i, (hi' : i < cs.length) → BS (bPiece cs[i]) (4 * (cs[i]).sz.toNat)) := fun i hi' => bPiece_bs _ (oks_get hok i hi') (by have := sz_le_szs hok i hi'; omega)
  have HSZ : Hid (∀ i, (hi' : i < cs.length) → 0 ≤ CT.szs (cs.take i) ∧ 0 ≤ (cs[i]).sz ∧ CT.szs (cs.take i) + (cs[i]).sz ≤ CT.szs cs ∧ CT.szs (cs.take (i + 1)) = CT.szs (cs.take i) + (cs[i]).sz) := fun i hi' => ⟨(sz_le_szs hok i hi').1, (sz_le_szs hok i hi').2.1, (sz_le_szs hok i hi').2.2, szs_take cs i hi'⟩
  have HLEN := hid hlen
  have HPB := hid hpb
  have HE0 : Hid (bSeq (cs.drop qpn) st (x1, x2) = (st, (x1, x2))) := by
    show _ = _
    rw [List.drop_of_length_le (by omega)]
    rw [bSeq]
  have hf0 : st.length + 4 * (CT.szs (cs.take qpn)).toNat ≤ 9000 := by rw [List.take_of_length_le (by omega)]; exact hfew
  have START := hid (And.intro (And.intro l0 (And.intro l1 l2)) (And.intro W3 (And.intro h3 S3)))
  clear h h1 h2 h3 l0 l1 l2 W3 S3 hS hK hP hpb
  simp only [Nv.val, Nv.cells, exV]
  go_enter Tryz.func34, Tryz.ntmps34
  go_wp2_with fail
  go_loopg [8] qpn (fun kk i wr => ∃ (k : Nat) (v2 : Value) (st1 : List MS) (a1 a2 : Int), i = .int .i64 ((k : Int) - 1) ∧ k ≤ qpn ∧ kk = k ∧ Hid (bSeq (cs.drop k) st (x1, x2) = (st1, (a1, a2))) ∧ st1.length + 4 * (CT.szs (cs.take k)).toNat ≤ 9000 ∧ XOk st1.length (a1, a2) ∧
      BdAt wr b lo hi v2 st1 ∧ Went b w wr v v2 ∧ Sames lo hi w0 wr ∧ Loc wr b v2 w.heap.size #[.int .i64 3, .slice qpa qpn qpc, .slice qsa qsn qsc, .int .i64 qed, .int .i64 qgr, .int .i64 qlo, .int .i64 qhi, .bool qlz] 56 ∧ Loc wr b v2 (w.heap.size + 1) #[.int .i64 a1, .int .i64 a2] 96 ∧ Loc wr b v2 (w.heap.size + 1 + 1) #[.int .i64 0, .int .i64 0] 96)
  case atStart =>
    obtain ⟨⟨l0, l1, l2⟩, W3, h3, S3⟩ := START.out
    exact ⟨qpn, v, st, x1, x2, rfl, Nat.le_refl _, rfl, HE0, hf0, hx, h3, W3, S3, l0, l1, l2⟩
  case round =>
    obtain ⟨k', v2, st1, a1, a2, rfl, hk, hkk, HE, hfw, hxo, hB2, hW2, hS2, P0, P1, P2⟩ := hrel
    clear START
    cases k' with
    | zero =>
      subst hkk
      obtain ⟨c0, c1, _, _⟩ := P1.two
      obtain ⟨d0, d1, g0, g1⟩ := P2.two
      have FIN := hid (And.intro hB2 (And.intro hW2 P2))
      have hd1 : ¬ ((0 : Int) ≤ ((0 : Nat) : Int) - 1) := by omega
      have HE2 : Hid (bSeq cs st (x1, x2) = (st1, (a1, a2))) := HE.out
      clear hB2 hW2 hS2 P0 P1 P2 HE
      go_wp2_with fail
      rw [HE2.out]
      exact exits_fin FIN.out.1 FIN.out.2.1 FIN.out.2.2 (by omega) (by omega) Tryz.results34 rfl rfl
    | succ k =>
      subst hkk
      obtain ⟨hpa, hpl, hph⟩ := HPB.out (by omega)
      have hcast : ((k + 1 : Nat) : Int) - 1 = (k : Int) := by omega
      have hkl : k < cs.length := by have := HLEN.out; omega
      have hz := HSZ.out k hkl
      have hbl := HBS.out k hkl
      have c1' := hbl.xok st1 (a1, a2) hxo
      have c2' := hbl.few st1 (a1, a2)
      have c3' := hbl.grow st1 (a1, a2)
      have HE2 : Hid (bSeq (cs.drop k) st (x1, x2) = bPiece cs[k] st1 (a1, a2)) := by
        have := HE.out
        show _ = _
        rw [bSeq_step hkl, this]
      subst hpa
      have hB' := hB2.new ((Kept.refl Nil wr).drew)
      have hW' := hW2.new ((Kept.refl Nil wr).drew)
      have hS' : Sames lo hi w0 wr.drew := hS2
      have M0 : Loc wr.drew b v2 w.heap.size #[.int .i64 3, .slice (some ⟨pb, 0, none⟩) qpn qpc, .slice qsa qsn qsc, .int .i64 qed, .int .i64 qgr, .int .i64 qlo, .int .i64 qhi, .bool qlz] 56 := ⟨P0.blk, P0.not⟩
      have M1 : Loc wr.drew b v2 (w.heap.size + 1) #[.int .i64 a1, .int .i64 a2] 96 := ⟨P1.blk, P1.not⟩
      have M2 : Loc wr.drew b v2 (w.heap.size + 1 + 1) #[.int .i64 0, .int .i64 0] 96 := ⟨P2.blk, P2.not⟩
      have PS : Hid (SeqS w.heap.size pb k qpn qpc (V k) a1 a2 wr.drew) := ⟨ChS.of M1 ((HK.out k (by omega)).sames hS' hpl hph), M0.blk.cell 1⟩
      have F1 := HP.out k hkl wr.drew v2 st1 (a1, a2) hB' hxo hS' (by omega)
      simp only [Nv.val, Nv.cells, exV] at F1
      have F1H := hid F1
      have PK := hid (And.intro (And.intro hB' (And.intro hW' hS')) (And.intro M0 (And.intro M1 M2)))
      have hki : ¬ ((qpn : Int) ≤ (k : Int)) := by omega
      clear hB2 hW2 hS2 P0 P1 P2 hB' hW' hS' M0 M1 M2 F1 HE hbl
      go_wp2_with fail
      refine wp_region_last (S := SeqS w.heap.size pb k qpn qpc (V k) a1 a2) 8 (by kernel_rfl) rfl rfl rfl (by kernel_rfl) (by kernel_rfl) ?_
      have hS0 := PS.out
      refine takeH 0 47 (.pointer (some ⟨b, 0, none⟩)) rfl rfl (by kernel_rfl) (by kernel_rfl) (by kernel_rfl) (fun _ _ _ h => h) (Or.inl ⟨by rfl, fun W hSW => by obtain ⟨⟨⟨⟨s2, s3, s4, s5⟩, s6, s7, s8, s9⟩, s10, s11⟩, s12⟩ := hSW; go_simp⟩) hS0 ?_
      refine takeH 1 48 (.pointer (some ⟨w.heap.size, 1, none⟩)) rfl rfl (by kernel_rfl) (by kernel_rfl) (by kernel_rfl) (fun _ _ _ h => h) (Or.inl ⟨by rfl, fun W hSW => by obtain ⟨⟨⟨⟨s2, s3, s4, s5⟩, s6, s7, s8, s9⟩, s10, s11⟩, s12⟩ := hSW; go_simp⟩) hS0 ?_
      refine takeH 2 49 (.slice (some ⟨pb, 0, none⟩) qpn qpc) rfl rfl (by kernel_rfl) (by kernel_rfl) (by kernel_rfl) (fun _ _ _ h => h) (Or.inl ⟨by rfl, fun W hSW => by obtain ⟨⟨⟨⟨s2, s3, s4, s5⟩, s6, s7, s8, s9⟩, s10, s11⟩, s12⟩ := hSW; go_simp⟩) hS0 ?_
      refine takeH 3 50 (.int .i64 k) rfl rfl (by kernel_rfl) (by kernel_rfl) (by kernel_rfl) (fun _ _ _ h => h) (Or.inl ⟨by rfl, fun W hSW => by obtain ⟨⟨⟨⟨s2, s3, s4, s5⟩, s6, s7, s8, s9⟩, s10, s11⟩, s12⟩ := hSW; go_simp⟩) hS0 ?_
      refine takeH 4 51 (.pointer (some ⟨pb, k * 8, none⟩)) rfl rfl (by kernel_rfl) (by kernel_rfl) (by kernel_rfl) (fun _ _ _ h => h) (Or.inl ⟨by rfl, fun W hSW => by obtain ⟨⟨⟨⟨s2, s3, s4, s5⟩, s6, s7, s8, s9⟩, s10, s11⟩, s12⟩ := hSW; go_simp⟩) hS0 ?_
      refine takeH 5 52 (.agg #[.int .i64 (V k).k, .slice (V k).pa (V k).pn (V k).pc, .slice (V k).sa (V k).sn (V k).sc, .int .i64 (V k).ed, .int .i64 (V k).gr, .int .i64 (V k).lo, .int .i64 (V k).hi, .bool (V k).lz]) rfl rfl (by kernel_rfl) (by kernel_rfl) (by kernel_rfl) (fun _ _ _ h => h) (Or.inl ⟨by rfl, fun W hSW => by obtain ⟨⟨⟨⟨s2, s3, s4, s5⟩, s6, s7, s8, s9⟩, s10, s11⟩, s12⟩ := hSW; go_simp⟩) hS0 ?_
      refine takeH 6 53 (.agg #[.int .i64 a1, .int .i64 a2]) rfl rfl (by kernel_rfl) (by kernel_rfl) (by kernel_rfl) (fun _ _ _ h => h) (Or.inl ⟨by rfl, fun W hSW => by obtain ⟨⟨⟨⟨s2, s3, s4, s5⟩, s6, s7, s8, s9⟩, s10, s11⟩, s12⟩ := hSW; go_simp⟩) hS0 ?_
      simp only [Act.put, List.setIfInBounds_toArray, List.set_cons_zero, List.set_cons_succ]
      refine wpAnyH_ready (rs := [7]) (by kernel_rfl) (by simp) (AllReadyH.cons rfl (fun K hK => ?_) AllReadyH.nil)
      go_simp
      refine (F1H.out).mono ?_
      rintro e w5 ⟨rfl, v5, h5, k5⟩
      dsimp only
      obtain ⟨⟨hB, hW, hSm⟩, M0, M1, M2⟩ := PK.out
      have S5 := hSm.went hB k5
      have m0 := M0.went k5
      have m1 := M1.went k5
      have m2 := M2.went k5
      have hS5 : SeqS w.heap.size pb k qpn qpc (V k) a1 a2 w5 := ⟨ChS.of m1 ((HK.out k (by omega)).sames S5 hpl hph), m0.blk.cell 1⟩
      refine hK.out _ _ hS5 (fun _ => ?_)
      clear hK K
      obtain ⟨d0, d1, g0, g1⟩ := m1.two
      generalize hE : bPiece cs[k] st1 (a1, a2) = E at *
      obtain ⟨st2, y1, y2⟩ := E
      simp only at c1' c2' c3' h5
      have N0 := (m0.other (d := w.heap.size + 1) (by omega) 0 (.int .i64 y1)).other (d := w.heap.size + 1) (by omega) 1 (.int .i64 y2)
      have N2 := (m2.other (d := w.heap.size + 1) (by omega) 0 (.int .i64 y1)).other (d := w.heap.size + 1) (by omega) 1 (.int .i64 y2)
      have N1 := (m1.setCell 0 (.int .i64 y1)).setCell 1 (.int .i64 y2)
      have h7 := (h5.set m1.not (by omega) 0 (.int .i64 y1)).set m1.not (by omega) 1 (.int .i64 y2)
      have W7 := ((hW.trans k5).set (c := w.heap.size + 1) (by omega) 0 (.int .i64 y1)).set (c := w.heap.size + 1) (by omega) 1 (.int .i64 y2)
      have S7 := (S5.set (c := w.heap.size + 1) (by omega) 0 (.int .i64 y1)).set (c := w.heap.size + 1) (by omega) 1 (.int .i64 y2)
      have PK3 := hid (And.intro (And.intro h7 (And.intro W7 S7)) (And.intro N0 (And.intro N1 N2)))
      clear hB hW hSm M0 M1 M2 m0 m1 m2 h5 k5 h7 W7 S7 N0 N1 N2 hS5 S5 F1H hE hS0 PK PS
      refine wpAnyH_done (by kernel_rfl) ?_ _
      unfold thenLast
      go_wp2_with fail
      go_roundg k
      case measure => omega
      case rel =>
        obtain ⟨⟨h7, W7, S7⟩, N0, N1, N2⟩ := PK3.out
        exact ⟨k, v5, st2, y1, y2, rfl, by omega, rfl, HE2, by omega, c1', h7, W7, S7, N0, N1, N2⟩

theorem PTAt.pcok {w0 : World} {b lo hi : Nat} {q : Nv} {T : PT} {C : CT} (h : PTAt w0 lo hi q T C) : C.ok → C.sz ≤ 1000 → PcOk b lo hi w0 q C := by
  induction h with
  | mk q tk pb bs ts cs V S sp fo nt hn hb hc hk hs hsc hr hkind ih =>
    intro hok hsz W v st x hB hx hS hfew
    obtain ⟨qk, qpa, qpn, qpc, qsa, qsn, qsc, qed, qgr, qlo, qhi, qlz⟩ := q
    unfold CT.ok at hok
    obtain ⟨hok0, hok1, hok2, hok3, hoks⟩ := hok
    simp only at hn hb hs hr hkind
    have hszs := CT.szs_nonneg cs hoks
    have hKid : ∀ i, i < cs.length → KidAt w0 pb i (V i) := fun i hi' => hc i (by omega)
    have hcn : cs ≠ [] → ts ≠ [] := by intro h1 h2; subst h2; exact h1 (List.length_eq_zero_iff.1 (by simpa using hn.2.1))
    have hPb : cs ≠ [] → qpa = some ⟨pb, 0, none⟩ ∧ lo ≤ pb ∧ pb < hi := fun e => hb (hcn e)
    have hIH : ∀ i, (h' : i < cs.length) → (cs[i]).sz ≤ 1000 → PcOk b lo hi w0 (V i) cs[i] := fun i h' hz => ih i (by omega) h' (oks_get hoks i h') hz
    rcases hkind with ⟨rfl, _, hset⟩ | ⟨rfl, _⟩ | ⟨rfl, _⟩ | ⟨rfl, _⟩ | ⟨rfl, _, hne⟩ | ⟨rfl, _⟩
    · have e : bPiece (.node 0 sp fo nt qed qgr qlo qhi qlz cs) st x = (st ++ [takeS sp fo nt x.2], ((st.length : Int), (st.length : Int))) := by
        rw [bPiece]; simp
      rw [e]
      refine piece_take hB x hS (m := takeS sp fo nt) (fun W' n hS' => ⟨rfl, rfl, rfl, rfl, rfl, by simp [takeS], fun _ => ⟨S, bs, hn.2.2, hs, hsc.sames hS' (fun h => (hs h).2), hset, hr.2.2.2.2.2.1, hr.2.2.2.2.2.2⟩⟩) (by omega)
    · have e : bPiece (.node 1 sp fo nt qed qgr qlo qhi qlz cs) st x = bLead (standS qed) st x := by
        rw [bPiece]; simp
      rw [e]
      exact piece_stand hB x hS (by omega)
    · have h1 := hok1 (Or.inl rfl)
      have hsz1 : (CT.node 2 sp fo nt qed qgr qlo qhi qlz cs).sz = min (CT.szs cs + 1) 1001 := by rw [CT.sz]; simp
      rw [hsz1] at hsz hfew
      have hone := szs_one h1
      obtain ⟨p1, p2⟩ := hPb (by intro e; subst e; simp at h1)
      have e : bPiece (.node 2 sp fo nt qed qgr qlo qhi qlz cs) st x = if qgr = 0 then bPiece (cs[0]'(by omega)) st x else bLead (markS (2 * (qgr - 1))) (bPiece (cs[0]'(by omega)) (bLead (markS (2 * (qgr - 1) + 1)) st x).1 (bLead (markS (2 * (qgr - 1) + 1)) st x).2).1 (bPiece (cs[0]'(by omega)) (bLead (markS (2 * (qgr - 1) + 1)) st x).1 (bLead (markS (2 * (qgr - 1) + 1)) st x).2).2 := by
        rw [bPiece, bOne_get h1]; simp
      rw [e]
      refine piece_bracket hB x hS (fun W' hB' hS' => ?_)
      exact mbracket_rd hB' x hx hS' (oks_get hoks 0 (by omega)) (by omega) (hIH 0 (by omega) (by omega)) p1 (by rw [hn.1, ← hn.2.1, h1]) p2 ((hKid 0 (by omega)).sames hS' p2.1 p2.2) hr.2.2.2.1 (by omega)
    · have hsz1 : (CT.node 3 sp fo nt qed qgr qlo qhi qlz cs).sz = min (CT.szs cs) 1001 := by rw [CT.sz]; simp
      rw [hsz1] at hsz hfew
      have e : bPiece (.node 3 sp fo nt qed qgr qlo qhi qlz cs) st x = bSeq cs st x := by rw [bPiece]; simp
      rw [e]
      refine piece_seq (pb := pb) (n := cs.length) (V := V) hB x hS hx rfl (by omega) hoks (by omega) (fun i h' => hIH i h' (by have := sz_le_szs hoks i h'; omega)) (by rw [hn.1, hn.2.1]) (fun h => hPb (by intro e; subst e; simp at h)) hKid (by omega)
    · have hne' : cs ≠ [] := by intro h2; subst h2; exact hne (List.length_eq_zero_iff.1 (by have := hn.2.1; simpa using this.symm))
      have hlen : cs.length = (cs.length - 1) + 1 := by have := List.length_pos_iff.2 hne'; omega
      have hsz1 : (CT.node 4 sp fo nt qed qgr qlo qhi qlz cs).sz = min (CT.szs cs + ((cs.length : Int) - 1)) 1001 := by rw [CT.sz]; simp
      rw [hsz1] at hsz hfew
      obtain ⟨p1, p2⟩ := hPb hne'
      have e : bPiece (.node 4 sp fo nt qed qgr qlo qhi qlz cs) st x = bAlt cs st x := by rw [bPiece]; simp
      rw [e]
      subst p1
      have hq : qpn = cs.length - 1 + 1 := by rw [hn.1, ← hn.2.1]; omega
      subst hq
      refine piece_choice hB x hS (fun W' hB' hS' => ?_)
      exact choice_rd (n := cs.length - 1) (V := V) hB' x hx hS' hlen (by omega) hoks (by omega) (fun i h' => hIH i h' (by have := sz_le_szs hoks i h'; omega)) p2 (fun i h' => hKid i (by omega)) (by omega)
    · have h1 := hok1 (Or.inr rfl)
      have hsz1 : (CT.node 5 sp fo nt qed qgr qlo qhi qlz cs).sz = min ((if qhi = -1 then qlo + 1 else qhi) * (CT.szs cs + 1)) 1001 := by rw [CT.sz]; simp
      rw [hsz1] at hsz hfew
      have hone := szs_one h1
      rw [hone] at hsz hfew
      obtain ⟨p1, p2⟩ := hPb (by intro e; subst e; simp at h1)
      have e : bPiece (.node 5 sp fo nt qed qgr qlo qhi qlz cs) st x = bTimes (bPiece (cs[0]'(by omega))) qlo qhi qlz st x := by
        rw [bPiece, bOne_get h1]; simp
      rw [e]
      refine piece_times hB x hS (fun W' hB' hS' => ?_)
      exact repetition_rd hB' x hx hS' (oks_get hoks 0 (by omega)) (by simp only; omega) (fun hz => hIH 0 (by omega) hz) p1 (by simp only; rw [hn.1, ← hn.2.1, h1]) p2 (hKid 0 (by omega)) (hok3 rfl) (by simp only; omega)
end Go.Proofs.YtnbfddjaonlmaaaGreatDoor
