/- The reader of the program: atom, repeated. -/
import Derived.Test.YtlimhofdonkljaaRd5
namespace Go.Proofs.Ytlimhofdonkljaa
open Go.RowKit Go.Maps
set_option linter.unusedVariables false

theorem atom_close {w w2 : World} {g : RG} {st st' : RS} {q : Quad} {T : PT} {lo hi : Nat} (h : RdAt w g st) (h2 : RdAt w2 g st') (hp : PTAt w2 lo hi q.val T) (hlo : w.heap.size < lo) (hhi : hi ≤ w2.heap.size) (k1 : Kept g.own w w2) :
    RdAt (setQuad w2 w.heap.size q) g st' ∧ PTAt (setQuad w2 w.heap.size q) w.heap.size (setQuad w2 w.heap.size q).heap.size q.val T ∧ Kept g.own w (setQuad w2 w.heap.size q) := by
  have sz := setQuad_size w2 w.heap.size q
  have kq := setQuad_kept w2 w.heap.size q
  refine ⟨h2.new h kq (fun i hi => by omega), ?_, k1.trans' kq (fun i hi he => by omega)⟩
  exact (hp.kept kq (fun i h1 _ he => by omega) hhi).widen (by omega) (by omega)

theorem single_close {w w2 : World} {g : RG} {st st' : RS} (h : RdAt w g st) (h2 : RdAt w2 g st') (k1 : Kept g.own w w2) :
    RdAt (setQuad w2 w.heap.size zeroQuad) g st' ∧ PTAt (setQuad w2 w.heap.size zeroQuad) w.heap.size (setQuad w2 w.heap.size zeroQuad).heap.size zeroQuad.val single ∧ Kept g.own w (setQuad w2 w.heap.size zeroQuad) := by
  have kq := setQuad_kept w2 w.heap.size zeroQuad
  exact ⟨h2.new h kq (fun i hi => by omega), PTAt.single _ _ _, k1.trans' kq (fun i hi he => by omega)⟩

theorem atom_rd {w : World} {g : RG} {st : RS} {k : Nat} (hA : AltOk g k) (hR : RdAt w g st) (hrem : g.rs.length - st.next ≤ k) :
    Calls Try.prog 54 #[.pointer (some ⟨g.b, 0, none⟩)] w fun e w' => ∃ v, e = .returned v ∧ RdAt w' g (pAtom g (pAlt g k) st).1 ∧ PTAt w' w.heap.size w'.heap.size v (pAtom g (pAlt g k) st).2 ∧ Kept g.own w w' := by
  have hl := hR.len
  have hnl := hR.next
  have hgr := hR.groups
  have ha : RdAt (w.alloc (.cells #[.int .i64 0, .slice none 0 0, .int .i64 0, .int .i64 0] 53)) g st := hR.nil ((Kept.refl _ _).alloc _)
  have hka : Kept g.own w (w.alloc (.cells #[.int .i64 0, .slice none 0 0, .int .i64 0, .int .i64 0] 53)) := (Kept.refl _ _).alloc _
  unfold pAtom
  cases c1 : inSet lOpenRound (seeOf g st)
  · cases c2 : inSet lOpenSquare (seeOf g st)
    · cases c3 : inSet lBack (seeOf g st)
      · cases c4 : inSet lSingles (seeOf g st)
        · go_enter Try.func54, Try.ntmps54
          go_wp2_with fail
          refine (takeN ha _ lOpenRound (by rfl) (by decide) c1).mono ?_
          rintro e w1 ⟨rfl, h1, hk1⟩
          go_wp2_with fail
          refine (takeN h1 _ lOpenSquare (by rfl) (by decide) c2).mono ?_
          rintro e w2 ⟨rfl, h2, hk2⟩
          go_wp2_with fail
          refine (takeN h2 _ lBack (by rfl) (by decide) c3).mono ?_
          rintro e w3 ⟨rfl, h3, hk3⟩
          go_wp2_with fail
          refine (takeN h3 _ lSingles (by rfl) (by decide) c4).mono ?_
          rintro e w4 ⟨rfl, h4, hk4⟩
          go_wp2_with fail
          refine (needOtherL h4 _ lNotPlain (by rfl) (by decide)).mono ?_
          rintro e wz ⟨rfl, hz, hkz⟩
          have kall := (((hk1.trans hk2).trans hk3).trans hk4).trans hkz
          have b2 := (Blk.new w #[.int .i64 0, .slice none 0 0, .int .i64 0, .int .i64 0] 53).kept kall (fun hx => by have := hR.own_lt hx; omega)
          have e0 : wz.cell? ⟨w.heap.size, 0, none⟩ = some (.int .i64 0) := b2.cell 0
          have e1 : wz.cell? ⟨w.heap.size, 1, none⟩ = some (.slice none 0 0) := b2.cell 1
          have e2 : wz.cell? ⟨w.heap.size, 2, none⟩ = some (.int .i64 0) := b2.cell 2
          have e3 : wz.cell? ⟨w.heap.size, 3, none⟩ = some (.int .i64 0) := b2.cell 3
          have g0 : wz.frozen? ⟨w.heap.size, 0, none⟩ = false := b2.frozen 0
          have g1 : wz.frozen? ⟨w.heap.size, 1, none⟩ = false := b2.frozen 1
          have g2 : wz.frozen? ⟨w.heap.size, 2, none⟩ = false := b2.frozen 2
          have g3 : wz.frozen? ⟨w.heap.size, 3, none⟩ = false := b2.frozen 3
          have hlt9 : w.heap.size < wz.heap.size := b2.lt
          go_wp2_with fail
          have fin := single_close hR hz (hka.trans kall)
          have bfin := setQuad_blk b2 rfl zeroQuad
          simp only [setQuad, zeroQuad] at fin bfin
          refine node_ret (i := 2) (b := w.heap.size) (q := zeroQuad) Try.results54 ?_ ?_ ?_ ?_
          · rfl
          · rfl
          · exact bfin
          · exact ⟨_, rfl, fin⟩
        · go_enter Try.func54, Try.ntmps54
          go_wp2_with fail
          refine (takeN ha _ lOpenRound (by rfl) (by decide) c1).mono ?_
          rintro e w1 ⟨rfl, h1, hk1⟩
          go_wp2_with fail
          refine (takeN h1 _ lOpenSquare (by rfl) (by decide) c2).mono ?_
          rintro e w2 ⟨rfl, h2, hk2⟩
          go_wp2_with fail
          refine (takeN h2 _ lBack (by rfl) (by decide) c3).mono ?_
          rintro e w3 ⟨rfl, h3, hk3⟩
          go_wp2_with fail
          refine (takeY h3 _ lSingles (by rfl) (by decide) c4).mono ?_
          rintro e wz ⟨rfl, hz, hkz⟩
          have kall := ((hk1.trans hk2).trans hk3).trans hkz
          have b2 := (Blk.new w #[.int .i64 0, .slice none 0 0, .int .i64 0, .int .i64 0] 53).kept kall (fun hx => by have := hR.own_lt hx; omega)
          have e0 : wz.cell? ⟨w.heap.size, 0, none⟩ = some (.int .i64 0) := b2.cell 0
          have e1 : wz.cell? ⟨w.heap.size, 1, none⟩ = some (.slice none 0 0) := b2.cell 1
          have e2 : wz.cell? ⟨w.heap.size, 2, none⟩ = some (.int .i64 0) := b2.cell 2
          have e3 : wz.cell? ⟨w.heap.size, 3, none⟩ = some (.int .i64 0) := b2.cell 3
          have g0 : wz.frozen? ⟨w.heap.size, 0, none⟩ = false := b2.frozen 0
          have g1 : wz.frozen? ⟨w.heap.size, 1, none⟩ = false := b2.frozen 1
          have g2 : wz.frozen? ⟨w.heap.size, 2, none⟩ = false := b2.frozen 2
          have g3 : wz.frozen? ⟨w.heap.size, 3, none⟩ = false := b2.frozen 3
          have hlt9 : w.heap.size < wz.heap.size := b2.lt
          go_wp2_with fail
          have fin := single_close hR hz (hka.trans kall)
          have bfin := setQuad_blk b2 rfl zeroQuad
          simp only [setQuad, zeroQuad] at fin bfin
          refine node_ret (i := 2) (b := w.heap.size) (q := zeroQuad) Try.results54 ?_ ?_ ?_ ?_
          · rfl
          · rfl
          · exact bfin
          · exact ⟨_, rfl, fin⟩
      · go_enter Try.func54, Try.ntmps54
        go_wp2_with fail
        refine (takeN ha _ lOpenRound (by rfl) (by decide) c1).mono ?_
        rintro e w1 ⟨rfl, h1, hk1⟩
        go_wp2_with fail
        refine (takeN h1 _ lOpenSquare (by rfl) (by decide) c2).mono ?_
        rintro e w2 ⟨rfl, h2, hk2⟩
        go_wp2_with fail
        refine (takeY h2 _ lBack (by rfl) (by decide) c3).mono ?_
        rintro e w3 ⟨rfl, h3, hk3⟩
        go_wp2_with fail
        refine (needL h3 _ lEscape (by rfl) (by decide)).mono ?_
        rintro e wz ⟨rfl, hz, hkz⟩
        have kall := ((hk1.trans hk2).trans hk3).trans hkz
        have b2 := (Blk.new w #[.int .i64 0, .slice none 0 0, .int .i64 0, .int .i64 0] 53).kept kall (fun hx => by have := hR.own_lt hx; omega)
        have e0 : wz.cell? ⟨w.heap.size, 0, none⟩ = some (.int .i64 0) := b2.cell 0
        have e1 : wz.cell? ⟨w.heap.size, 1, none⟩ = some (.slice none 0 0) := b2.cell 1
        have e2 : wz.cell? ⟨w.heap.size, 2, none⟩ = some (.int .i64 0) := b2.cell 2
        have e3 : wz.cell? ⟨w.heap.size, 3, none⟩ = some (.int .i64 0) := b2.cell 3
        have g0 : wz.frozen? ⟨w.heap.size, 0, none⟩ = false := b2.frozen 0
        have g1 : wz.frozen? ⟨w.heap.size, 1, none⟩ = false := b2.frozen 1
        have g2 : wz.frozen? ⟨w.heap.size, 2, none⟩ = false := b2.frozen 2
        have g3 : wz.frozen? ⟨w.heap.size, 3, none⟩ = false := b2.frozen 3
        have hlt9 : w.heap.size < wz.heap.size := b2.lt
        go_wp2_with fail
        have fin := single_close hR hz (hka.trans kall)
        have bfin := setQuad_blk b2 rfl zeroQuad
        simp only [setQuad, zeroQuad] at fin bfin
        refine node_ret (i := 2) (b := w.heap.size) (q := zeroQuad) Try.results54 ?_ ?_ ?_ ?_
        · rfl
        · rfl
        · exact bfin
        · exact ⟨_, rfl, fin⟩
    · go_enter Try.func54, Try.ntmps54
      go_wp2_with fail
      refine (takeN ha _ lOpenRound (by rfl) (by decide) c1).mono ?_
      rintro e w1 ⟨rfl, h1, hk1⟩
      go_wp2_with fail
      refine (takeY h1 _ lOpenSquare (by rfl) (by decide) c2).mono ?_
      rintro e w2 ⟨rfl, h2, hk2⟩
      go_wp2_with fail
      refine (class_rd h2).mono ?_
      rintro e wz ⟨rfl, hz, hkz⟩
      have kall := (hk1.trans hk2).trans hkz
      have b2 := (Blk.new w #[.int .i64 0, .slice none 0 0, .int .i64 0, .int .i64 0] 53).kept kall (fun hx => by have := hR.own_lt hx; omega)
      have e0 : wz.cell? ⟨w.heap.size, 0, none⟩ = some (.int .i64 0) := b2.cell 0
      have e1 : wz.cell? ⟨w.heap.size, 1, none⟩ = some (.slice none 0 0) := b2.cell 1
      have e2 : wz.cell? ⟨w.heap.size, 2, none⟩ = some (.int .i64 0) := b2.cell 2
      have e3 : wz.cell? ⟨w.heap.size, 3, none⟩ = some (.int .i64 0) := b2.cell 3
      have g0 : wz.frozen? ⟨w.heap.size, 0, none⟩ = false := b2.frozen 0
      have g1 : wz.frozen? ⟨w.heap.size, 1, none⟩ = false := b2.frozen 1
      have g2 : wz.frozen? ⟨w.heap.size, 2, none⟩ = false := b2.frozen 2
      have g3 : wz.frozen? ⟨w.heap.size, 3, none⟩ = false := b2.frozen 3
      have hlt9 : w.heap.size < wz.heap.size := b2.lt
      go_wp2_with fail
      have fin := single_close hR hz (hka.trans kall)
      have bfin := setQuad_blk b2 rfl zeroQuad
      simp only [setQuad, zeroQuad] at fin bfin
      refine node_ret (i := 2) (b := w.heap.size) (q := zeroQuad) Try.results54 ?_ ?_ ?_ ?_
      · rfl
      · rfl
      · exact bfin
      · exact ⟨_, rfl, fin⟩
  · have hlt := seeOf_lt c1
    go_enter Try.func54, Try.ntmps54
    go_wp2_with fail
    refine (takeY ha _ lOpenRound (by rfl) (by decide) c1).mono ?_
    rintro e w1 ⟨rfl, h1, hk1⟩
    go_wp2_with fail
    refine (bracket_rd hA h1 (by simp; omega) (by simp; omega)).mono ?_
    rintro e wz ⟨v, rfl, hz, hp, hkz⟩
    have kall := hk1.trans hkz
    obtain ⟨k', ao, n, cap, l, hh2, hv⟩ := hp.quad
    rw [hv] at hp ⊢
    clear hv
    have b2 := (Blk.new w #[.int .i64 0, .slice none 0 0, .int .i64 0, .int .i64 0] 53).kept kall (fun hx => by have := hR.own_lt hx; omega)
    have e0 : wz.cell? ⟨w.heap.size, 0, none⟩ = some (.int .i64 0) := b2.cell 0
    have e1 : wz.cell? ⟨w.heap.size, 1, none⟩ = some (.slice none 0 0) := b2.cell 1
    have e2 : wz.cell? ⟨w.heap.size, 2, none⟩ = some (.int .i64 0) := b2.cell 2
    have e3 : wz.cell? ⟨w.heap.size, 3, none⟩ = some (.int .i64 0) := b2.cell 3
    have g0 : wz.frozen? ⟨w.heap.size, 0, none⟩ = false := b2.frozen 0
    have g1 : wz.frozen? ⟨w.heap.size, 1, none⟩ = false := b2.frozen 1
    have g2 : wz.frozen? ⟨w.heap.size, 2, none⟩ = false := b2.frozen 2
    have g3 : wz.frozen? ⟨w.heap.size, 3, none⟩ = false := b2.frozen 3
    have hlt9 : w.heap.size < wz.heap.size := b2.lt
    go_wp2_with fail
    have hsz1 := hk1.size
    have fin := atom_close (q := (.int .i64 k', .slice ao n cap, .int .i64 l, .int .i64 hh2)) hR hz hp (by simp at hsz1; omega) (Nat.le_refl _) (hka.trans kall)
    have bfin := setQuad_blk b2 rfl (.int .i64 k', .slice ao n cap, .int .i64 l, .int .i64 hh2)
    simp only [setQuad] at fin bfin
    refine node_ret (i := 2) (b := w.heap.size) (q := (.int .i64 k', .slice ao n cap, .int .i64 l, .int .i64 hh2)) Try.results54 ?_ ?_ ?_ ?_
    · rfl
    · rfl
    · exact bfin
    · exact ⟨_, rfl, fin⟩
end Go.Proofs.Ytlimhofdonkljaa
