/- The reader of the program: alt, whole. -/
import Derived.Test.YtlimhofdonkljaaRd9
namespace Go.Proofs.Ytlimhofdonkljaa
open Go.RowKit Go.Maps
set_option linter.unusedVariables false

theorem PsAt.one {w : World} {base lo hi : Nat} {q : Quad} {T : PT} (hp : PTAt w lo hi q.val T) (hlo : base ≤ lo) (hhi : hi ≤ w.heap.size) (hb : base ≤ w.heap.size) :
    PsAt (w.alloc (.cells #[q.1, q.2.1, q.2.2.1, q.2.2.2] 53)) base (.slice (some ⟨w.heap.size, 0, none⟩) 1 1) [q] [T] := by
  refine ⟨⟨rfl, Or.inr ⟨w.heap.size, 1, #[q.1, q.2.1, q.2.2.1, q.2.2.2], rfl, hb, Blk.new w _ _, Nat.le_refl _, by unfold maxLen; omega, rfl, rfl⟩⟩, rfl, by simp, fun i h1 h2 => ?_⟩
  have e : i = 0 := by simp at h1; omega
  subst e
  refine ⟨lo, hi, hlo, by simp; omega, hp.kept ((Kept.refl Nil w).alloc _) (fun _ _ _ hx => hx) hhi, fun b hb' => ?_⟩
  simp [Value.ownBlock] at hb'
  omega

theorem pAlts_end (g : RG) (alt : RS → RS × PT) (m : Nat) (st : RS) (acc : List PT) (h : inSet lBar (seeOf g st) = false) : pAlts g alt m st acc = (st, acc) := by
  cases m with
  | zero => rfl
  | succ m => unfold pAlts; rw [if_neg (by simp [h])]

set_option maxHeartbeats 1000000 in
theorem alt_step {g : RG} {k : Nat} (hA : AltOk g k) : AltOk g (k + 1) := by
  intro w st hR hrem
  have hlen := hR.len
  have hnl := hR.next
  have hnown : ∀ i, w.heap.size ≤ i → ¬ g.own i := fun i hi hx => by have := hR.own_lt hx; omega
  obtain ⟨i0, hi0, hz0, hz1, hz2⟩ := info_parts Try.infoNode
  have hfwd := pSeq_next g (pAlt g k) (pAlt_fwd g k) st hnl
  show Calls Try.prog 27 #[.pointer (some ⟨g.b, 0, none⟩)] w fun e w' => ∃ v, e = .returned v ∧ RdAt w' g (pAlts g (pAlt g k) (g.rs.length + 1) (pSeq g (pAlt g k) st).1 [(pSeq g (pAlt g k) st).2]).1 ∧ PTAt w' w.heap.size w'.heap.size v (.node 3 (pAlts g (pAlt g k) (g.rs.length + 1) (pSeq g (pAlt g k) st).1 [(pSeq g (pAlt g k) st).2]).2 0 0) ∧ Kept g.own w w'
  go_enter Try.func27, Try.ntmps27
  go_wp2_with fail
  have ha : RdAt (w.alloc (.cells #[.int .i64 0, .slice none 0 0, .int .i64 0, .int .i64 0] 53)) g st := hR.nil ((Kept.refl _ _).alloc _)
  have hka : Kept g.own w (w.alloc (.cells #[.int .i64 0, .slice none 0 0, .int .i64 0, .int .i64 0] 53)) := (Kept.refl _ _).alloc _
  have hb0 := Blk.new w #[.int .i64 0, .slice none 0 0, .int .i64 0, .int .i64 0] 53
  refine (seq_rd hA ha (by omega)).mono ?_
  rintro e w1 ⟨v1, rfl, h1, hp1, hk1⟩
  obtain ⟨k', ao, n, cap, l, hh2, hv⟩ := hp1.quad
  rw [hv] at hp1 ⊢
  clear hv
  go_wp2_with fail
  have s1 := hk1.size
  rw [size_alloc1] at s1 hp1
  have hps := PsAt.one (base := w.heap.size + 1) (q := (.int .i64 k', .slice ao n cap, .int .i64 l, .int .i64 hh2)) hp1 (Nat.le_refl _) (Nat.le_refl _) s1
  have hk0 := (hka.trans hk1).alloc (.cells #[.int .i64 k', .slice ao n cap, .int .i64 l, .int .i64 hh2] 53)
  have hb1 := (hb0.kept hk1 (hnown _ (Nat.le_refl _))).alloc (.cells #[.int .i64 k', .slice ao n cap, .int .i64 l, .int .i64 hh2] 53)
  have h1' := h1.nil ((Kept.refl Nil w1).alloc (.cells #[.int .i64 k', .slice ao n cap, .int .i64 l, .int .i64 hh2] 53))
  generalize hS : pSeq g (pAlt g k) st = x0 at *
  go_loopg [3] (g.rs.length - x0.1.next) (fun kk v wr => ∃ st1 m acc qs, RdAt wr g st1 ∧ PsAt wr (w.heap.size + 1) v qs acc ∧ Hid (pAlts g (pAlt g k) m st1 acc = pAlts g (pAlt g k) (g.rs.length + 1) x0.1 [x0.2]) ∧ kk = g.rs.length - st1.next ∧ kk < m ∧ st.next ≤ st1.next ∧ acc.length ≤ st1.next + 1 ∧ acc ≠ [] ∧ Kept g.own w wr ∧ w.heap.size + 1 ≤ wr.heap.size ∧ Blk wr w.heap.size #[.int .i64 0, .slice none 0 0, .int .i64 0, .int .i64 0] 53)
  case atStart => exact ⟨x0.1, g.rs.length + 1, _, _, h1', hps, rfl, rfl, by omega, by omega, by simp, by simp, hk0, by simp; omega, hb1⟩
  case round =>
    obtain ⟨st1, m, acc, qs, hr, hPs, HP, rfl, hm, hge, hacc, hne, hk, hsz, hb⟩ := hrel
    have HS : Hid (pSeq g (pAlt g k) st = x0) := hS
    clear ha hka hb0 hps hk0 hb1 h1' h1 hk1 hp1 hS
    have hle := hr.next
    cases hsq : inSet lBar (seeOf g st1)
    · go_wp2_with fail
      refine (takeN hr _ lBar (by rfl) (by decide) hsq).mono ?_
      rintro e w3 ⟨rfl, h3, hk3⟩
      have HE : Hid (pAlts g (pAlt g k) (g.rs.length + 1) x0.1 [x0.2] = (st1, acc)) := by show _ = _; rw [← HP.out, pAlts_end g _ m st1 acc hsq]
      clear HP
      have ps3 := hPs.kept hk3 (fun i hi => by have := hR.own_lt hi; omega)
      have b3 := hb.kept hk3 (hnown _ (Nat.le_refl _))
      have kw3 := hk.trans hk3
      have s3 := hk3.size
      obtain ⟨ao3, c3, hv3⟩ := ownsRow_slice ps3.own
      rw [hv3] at ps3 ⊢
      clear hv3 hPs hb hk hr
      have e0 : w3.cell? ⟨w.heap.size, 0, none⟩ = some (.int .i64 0) := b3.cell 0
      have e1 : w3.cell? ⟨w.heap.size, 1, none⟩ = some (.slice none 0 0) := b3.cell 1
      have e2 : w3.cell? ⟨w.heap.size, 2, none⟩ = some (.int .i64 0) := b3.cell 2
      have e3 : w3.cell? ⟨w.heap.size, 3, none⟩ = some (.int .i64 0) := b3.cell 3
      have g0 : w3.frozen? ⟨w.heap.size, 0, none⟩ = false := b3.frozen 0
      have g1 : w3.frozen? ⟨w.heap.size, 1, none⟩ = false := b3.frozen 1
      have g2 : w3.frozen? ⟨w.heap.size, 2, none⟩ = false := b3.frozen 2
      have g3 : w3.frozen? ⟨w.heap.size, 3, none⟩ = false := b3.frozen 3
      have hlt9 : w.heap.size < w3.heap.size := b3.lt
      go_wp2_with fail
      have fin := list_close (k := 3) hR h3 ps3 (by simp [hne]) kw3
      have bfin := setQuad_blk b3 rfl (.int .i64 3, .slice ao3 acc.length c3, .int .i64 0, .int .i64 0)
      simp only [setQuad] at fin bfin
      refine node_ret (i := 2) (b := w.heap.size) (q := (.int .i64 3, .slice ao3 acc.length c3, .int .i64 0, .int .i64 0)) Try.results27 ?_ ?_ ?_ ?_
      · rfl
      · rfl
      · exact bfin
      · rw [HS.out, HE.out]; exact ⟨_, rfl, fin⟩
    · have hlt := seeOf_lt hsq
      have n2 := pSeq_next g (pAlt g k) (pAlt_fwd g k) { st1 with next := st1.next + 1 } (by simp; omega)
      go_wp2_with fail
      refine (takeY hr _ lBar (by rfl) (by decide) hsq).mono ?_
      rintro e w4 ⟨rfl, h4, hk4⟩
      go_wp2_with fail
      refine (seq_rd hA h4 (by simp; omega)).mono ?_
      rintro e w6 ⟨v6, rfl, h6, hp6, hk6⟩
      obtain ⟨k'', ao', n', cap', l', hh3, hv⟩ := hp6.quad
      rw [hv] at hp6 ⊢
      clear hv
      have ps6 := hPs.kept (hk4.trans hk6) (fun i hi => by have := hR.own_lt hi; omega)
      have hfew : acc.length ≤ 301 := by omega
      go_wp2_with (at_builtin; refine wpList_append_own_at _ rfl _ _ 51 rfl (w.heap.size + 1) 53 i0 _ 4 48 Try.underlying51 hi0 hz0 hz1 hz2 rfl (by decide) _ _ _ rfl (ps6.own.alloc _) ⟨w6.heap.size, 0, none⟩ 1 1 [.int .i64 k'', .slice ao' n' cap', .int .i64 l', .int .i64 hh3] rfl rfl ?c1 ?c2 ?c3 ?c4 ?c5 ?_)
      case c1 => exact quad_news (.int .i64 k'', .slice ao' n' cap', .int .i64 l', .int .i64 hh3)
      case c2 => intro u hu; simp at hu; rcases hu with rfl | rfl | rfl | rfl <;> rfl
      case c3 => unfold maxLen; omega
      case c4 => omega
      case c5 => have := hk4.size; have := hk6.size; simp; omega
      intro v' w7 hown' hgrow hnil hloc
      have s34 := hk4.size
      have s6 := hk6.size
      have ps4 := hPs.kept hk4 (fun i hi => by have := hR.own_lt hi; omega)
      have ka6 : Kept Nil w6 (w6.alloc (.cells #[.int .i64 k'', .slice ao' n' cap', .int .i64 l', .int .i64 hh3] 53)) := (Kept.refl _ _).alloc _
      have psn := PsAt.snoc (q := (.int .i64 k'', .slice ao' n' cap', .int .i64 l', .int .i64 hh3)) ps6 hp6 (by omega) (fun b hb => (ownsRow_block ps4.own hb).2) (Nat.le_refl _) ka6 hown' hgrow (by rw [size_alloc1]; exact hloc) (by omega)
      have k67 : Kept (fun i => u3.ownBlock = some i) w6 w7 := (ka6.mono (fun _ hx => hx.elim)).grown hgrow (fun j hj => Or.inl hj)
      have hge67 : ∀ i, u3.ownBlock = some i → w.heap.size + 1 ≤ i := fun i hi => (ownsRow_block ps4.own hi).1
      have h7 := h6.new hR k67 (fun i hi => by have := hge67 i hi; omega)
      have kw7 := ((hk.trans hk4).trans hk6).trans' k67 (fun i hi he => by have := hge67 i he; omega)
      have hb7 := (hb.kept (hk4.trans hk6) (hnown _ (Nat.le_refl _))).kept k67 (fun he => by have := hge67 _ he; omega)
      have s7 := k67.size
      clear hown' hgrow hloc hnil ps6 ps4 hPs hk6 hk4 ka6 k67 hp6 hb
      go_wp2_with fail
      go_roundg (g.rs.length - (pSeq g (pAlt g k) { st1 with next := st1.next + 1 }).1.next)
      case measure => omega
      case rel =>
        refine ⟨_, m - 1, _, _, h7, psn, ?_, rfl, by omega, by omega, by simp; omega, by simp, kw7, by omega, hb7⟩
        rw [← HP.out]
        obtain ⟨m', rfl⟩ : ∃ m', m = m' + 1 := ⟨m - 1, by omega⟩
        show pAlts g (pAlt g k) m' _ _ = pAlts g (pAlt g k) (m' + 1) st1 acc
        rw [show pAlts g (pAlt g k) (m' + 1) st1 acc = if inSet lBar (seeOf g st1) then pAlts g (pAlt g k) m' (pSeq g (pAlt g k) { st1 with next := st1.next + 1 }).1 (acc ++ [(pSeq g (pAlt g k) { st1 with next := st1.next + 1 }).2]) else (st1, acc) from rfl, if_pos hsq]

theorem alt_ok (g : RG) : ∀ k, AltOk g k
  | 0 => fun w st hR h => absurd h (by omega)
  | k + 1 => alt_step (alt_ok g k)

/-- 'whole' -/
theorem whole_rd {w : World} {g : RG} {st : RS} (hR : RdAt w g st) :
    Calls Try.prog 17 #[.pointer (some ⟨g.b, 0, none⟩)] w fun e w' => ∃ v, e = .returned v ∧ RdAt w' g (pWhole g st).1 ∧ PTAt w' w.heap.size w'.heap.size v (pWhole g st).2 ∧ Kept g.own w w' := by
  have ha : RdAt (w.alloc (.cells #[.int .i64 0, .slice none 0 0, .int .i64 0, .int .i64 0] 53)) g st := hR.nil ((Kept.refl _ _).alloc _)
  have hka : Kept g.own w (w.alloc (.cells #[.int .i64 0, .slice none 0 0, .int .i64 0, .int .i64 0] 53)) := (Kept.refl _ _).alloc _
  have hb0 := Blk.new w #[.int .i64 0, .slice none 0 0, .int .i64 0, .int .i64 0] 53
  have hnown : ∀ i, w.heap.size ≤ i → ¬ g.own i := fun i hi hx => by have := hR.own_lt hx; omega
  unfold pWhole
  by_cases hend : seeOf g (pAlt g (g.rs.length + 1) st).1 = -1
  · rw [if_pos hend]
    have hbb : (seeOf g (pAlt g (g.rs.length + 1) st).1 != -1) = false := by simp [hend]
    clear hend
    go_enter Try.func17, Try.ntmps17
    go_wp2_with fail
    refine (alt_ok g (g.rs.length + 1) _ st ha (by omega)).mono ?_
    rintro e w1 ⟨v1, rfl, h1, hp1, hk1⟩
    obtain ⟨k', ao, n, cap, l, hh2, hv⟩ := hp1.quad
    rw [hv] at hp1 ⊢
    clear hv
    go_wp2_with fail
    have s1 := hk1.size
    rw [size_alloc1] at s1 hp1
    have h1' := h1.nil ((Kept.refl Nil w1).alloc (.cells #[.int .i64 k', .slice ao n cap, .int .i64 l, .int .i64 hh2] 53))
    have ka1 : Kept g.own w1 (w1.alloc (.cells #[.int .i64 k', .slice ao n cap, .int .i64 l, .int .i64 hh2] 53)) := (Kept.refl _ _).alloc _
    have hb1 := Blk.new w1 #[.int .i64 k', .slice ao n cap, .int .i64 l, .int .i64 hh2] 53
    refine (seeL h1').mono ?_
    rintro e w2 ⟨rfl, h2, hk2⟩
    have hz := h2
    have kz' := hk2
    obtain ⟨wz, hwz⟩ : ∃ wz, wz = w2 := ⟨_, rfl⟩
    subst hwz
    have kz : Kept g.own w1 wz := ka1.trans kz'
    have kall := hk1.trans kz
    have b0 := hb0.kept kall (hnown _ (Nat.le_refl _))
    have b1 := hb1.kept kz' (hnown _ (by omega))
    have sz := kz.size
    have e0 : wz.cell? ⟨w.heap.size, 0, none⟩ = some (.int .i64 0) := b0.cell 0
    have e1 : wz.cell? ⟨w.heap.size, 1, none⟩ = some (.slice none 0 0) := b0.cell 1
    have e2 : wz.cell? ⟨w.heap.size, 2, none⟩ = some (.int .i64 0) := b0.cell 2
    have e3 : wz.cell? ⟨w.heap.size, 3, none⟩ = some (.int .i64 0) := b0.cell 3
    have g0 : wz.frozen? ⟨w.heap.size, 0, none⟩ = false := b0.frozen 0
    have g1 : wz.frozen? ⟨w.heap.size, 1, none⟩ = false := b0.frozen 1
    have g2 : wz.frozen? ⟨w.heap.size, 2, none⟩ = false := b0.frozen 2
    have g3 : wz.frozen? ⟨w.heap.size, 3, none⟩ = false := b0.frozen 3
    have d0 : wz.cell? ⟨w1.heap.size, 0, none⟩ = some (.int .i64 k') := b1.cell 0
    have d1 : wz.cell? ⟨w1.heap.size, 1, none⟩ = some (.slice ao n cap) := b1.cell 1
    have d2 : wz.cell? ⟨w1.heap.size, 2, none⟩ = some (.int .i64 l) := b1.cell 2
    have d3 : wz.cell? ⟨w1.heap.size, 3, none⟩ = some (.int .i64 hh2) := b1.cell 3
    have hpz := hp1.kept kz (fun i h1 _ hx => hnown i (by omega) hx) (Nat.le_refl _)
    go_wp2_with fail
    have fin := atom_close (q := (.int .i64 k', .slice ao n cap, .int .i64 l, .int .i64 hh2)) hR hz hpz (by omega) (by omega) (hka.trans kall)
    have bfin := setQuad_blk b0 rfl (.int .i64 k', .slice ao n cap, .int .i64 l, .int .i64 hh2)
    simp only [setQuad] at fin bfin
    refine node_ret (i := 2) (b := w.heap.size) (q := (.int .i64 k', .slice ao n cap, .int .i64 l, .int .i64 hh2)) Try.results17 ?_ ?_ ?_ ?_
    · rfl
    · rfl
    · exact bfin
    · exact ⟨_, rfl, fin⟩
  · rw [if_neg hend]
    have hbb : (seeOf g (pAlt g (g.rs.length + 1) st).1 != -1) = true := by simp [hend]
    clear hend
    go_enter Try.func17, Try.ntmps17
    go_wp2_with fail
    refine (alt_ok g (g.rs.length + 1) _ st ha (by omega)).mono ?_
    rintro e w1 ⟨v1, rfl, h1, hp1, hk1⟩
    obtain ⟨k', ao, n, cap, l, hh2, hv⟩ := hp1.quad
    rw [hv] at hp1 ⊢
    clear hv
    go_wp2_with fail
    have s1 := hk1.size
    rw [size_alloc1] at s1 hp1
    have h1' := h1.nil ((Kept.refl Nil w1).alloc (.cells #[.int .i64 k', .slice ao n cap, .int .i64 l, .int .i64 hh2] 53))
    have ka1 : Kept g.own w1 (w1.alloc (.cells #[.int .i64 k', .slice ao n cap, .int .i64 l, .int .i64 hh2] 53)) := (Kept.refl _ _).alloc _
    have hb1 := Blk.new w1 #[.int .i64 k', .slice ao n cap, .int .i64 l, .int .i64 hh2] 53
    refine (seeL h1').mono ?_
    rintro e w2 ⟨rfl, h2, hk2⟩
    go_wp2_with fail
    refine (refuse_any h2).mono ?_
    rintro e wz ⟨rfl, hz, hkz⟩
    have kz' := hk2.trans hkz
    have kz : Kept g.own w1 wz := ka1.trans kz'
    have kall := hk1.trans kz
    have b0 := hb0.kept kall (hnown _ (Nat.le_refl _))
    have b1 := hb1.kept kz' (hnown _ (by omega))
    have sz := kz.size
    have e0 : wz.cell? ⟨w.heap.size, 0, none⟩ = some (.int .i64 0) := b0.cell 0
    have e1 : wz.cell? ⟨w.heap.size, 1, none⟩ = some (.slice none 0 0) := b0.cell 1
    have e2 : wz.cell? ⟨w.heap.size, 2, none⟩ = some (.int .i64 0) := b0.cell 2
    have e3 : wz.cell? ⟨w.heap.size, 3, none⟩ = some (.int .i64 0) := b0.cell 3
    have g0 : wz.frozen? ⟨w.heap.size, 0, none⟩ = false := b0.frozen 0
    have g1 : wz.frozen? ⟨w.heap.size, 1, none⟩ = false := b0.frozen 1
    have g2 : wz.frozen? ⟨w.heap.size, 2, none⟩ = false := b0.frozen 2
    have g3 : wz.frozen? ⟨w.heap.size, 3, none⟩ = false := b0.frozen 3
    have d0 : wz.cell? ⟨w1.heap.size, 0, none⟩ = some (.int .i64 k') := b1.cell 0
    have d1 : wz.cell? ⟨w1.heap.size, 1, none⟩ = some (.slice ao n cap) := b1.cell 1
    have d2 : wz.cell? ⟨w1.heap.size, 2, none⟩ = some (.int .i64 l) := b1.cell 2
    have d3 : wz.cell? ⟨w1.heap.size, 3, none⟩ = some (.int .i64 hh2) := b1.cell 3
    have hpz := hp1.kept kz (fun i h1 _ hx => hnown i (by omega) hx) (Nat.le_refl _)
    go_wp2_with fail
    have fin := atom_close (q := (.int .i64 k', .slice ao n cap, .int .i64 l, .int .i64 hh2)) hR hz hpz (by omega) (by omega) (hka.trans kall)
    have bfin := setQuad_blk b0 rfl (.int .i64 k', .slice ao n cap, .int .i64 l, .int .i64 hh2)
    simp only [setQuad] at fin bfin
    refine node_ret (i := 2) (b := w.heap.size) (q := (.int .i64 k', .slice ao n cap, .int .i64 l, .int .i64 hh2)) Try.results17 ?_ ?_ ?_ ?_
    · rfl
    · rfl
    · exact bfin
    · exact ⟨_, rfl, fin⟩
end Go.Proofs.Ytlimhofdonkljaa
