/- The reader of the program: seq. -/
import Derived.Test.YtlimhofdonkljaaRd8
namespace Go.Proofs.Ytlimhofdonkljaa
open Go.RowKit Go.Maps
set_option linter.unusedVariables false

theorem Try.infoNode : (Try.prog.info? 53).map (fun i => (i.zero, i.size, i.bytes)) = some (some (.agg #[.int .i64 0, .slice none 0 0, .int .i64 0, .int .i64 0]), 4, 48) := by kernel_rfl

theorem repeated_rd' {w : World} {g : RG} {st : RS} {k' l hh2 : Int} {ao : Option Addr} {n cap : Nat} {A : PT} {lo hi : Nat} (hR : RdAt w g st) (hp : PTAt w lo hi (.agg #[.int .i64 k', .slice ao n cap, .int .i64 l, .int .i64 hh2]) A) (hhi : hi ≤ w.heap.size) (hlw : lo ≤ w.heap.size) (hown : ∀ i, g.own i → i < lo) :
    Calls Try.prog 53 #[.pointer (some ⟨g.b, 0, none⟩), .agg #[.int .i64 k', .slice ao n cap, .int .i64 l, .int .i64 hh2]] w fun e w' => ∃ v, e = .returned v ∧ RdAt w' g (pRepeated g A st).1 ∧ PTAt w' lo w'.heap.size v (pRepeated g A st).2 ∧ Kept g.own w w' :=
  repeated_rd (q := (.int .i64 k', .slice ao n cap, .int .i64 l, .int .i64 hh2)) hR hp hhi hlw hown

theorem quad_news {w : World} (q : Quad) (j : Nat) (u : Value) (h : [q.1, q.2.1, q.2.2.1, q.2.2.2][j]? = some u) : (w.alloc (.cells #[q.1, q.2.1, q.2.2.1, q.2.2.2] 53)).cell? (Addr.add ⟨w.heap.size, 0, none⟩ j) = some u := by
  have hb := Blk.new w #[q.1, q.2.1, q.2.2.1, q.2.2.2] 53
  match j, h with
  | 0, h => simp at h; subst h; exact hb.cell 0
  | 1, h => simp at h; subst h; exact hb.cell 1
  | 2, h => simp at h; subst h; exact hb.cell 2
  | 3, h => simp at h; subst h; exact hb.cell 3
  | j + 4, h => simp at h

/-! ## how far -/
def AltFwd (g : RG) (alt : RS → RS × PT) : Prop := ∀ st, st.next ≤ g.rs.length → st.next ≤ (alt st).1.next ∧ (alt st).1.next ≤ g.rs.length
theorem pDigit_next (g : RG) (st : RS) (h : st.next ≤ g.rs.length) : st.next ≤ (pDigit g st).1.next ∧ (pDigit g st).1.next ≤ g.rs.length := by
  unfold pDigit
  split
  · rename_i hc; have := seeOf_lt hc; simp; omega
  · simp [refuseOf_next]; exact h
theorem pNumber_next (g : RG) (st : RS) (h : st.next ≤ g.rs.length) : st.next ≤ (pNumber g st).1.next ∧ (pNumber g st).1.next ≤ g.rs.length := by
  have h1 := pDigit_next g st h
  have h2 := pDigit_next g _ h1.2
  unfold pNumber
  split
  · simp only; omega
  · exact h1
theorem pBounds_next (g : RG) (st : RS) (h : st.next ≤ g.rs.length) : st.next ≤ (pBounds g st).1.next ∧ (pBounds g st).1.next ≤ g.rs.length := by
  have h1 := pNumber_next g st h
  unfold pBounds
  split
  · rename_i hc
    have hl := seeOf_lt hc
    have h2 := pNumber_next g { (pNumber g st).1 with next := (pNumber g st).1.next + 1 } (by simp; omega)
    have h3 : (pNumber g st).1.next ≤ (pHigh g { (pNumber g st).1 with next := (pNumber g st).1.next + 1 }).1.next ∧ (pHigh g { (pNumber g st).1 with next := (pNumber g st).1.next + 1 }).1.next ≤ g.rs.length := by
      unfold pHigh
      split
      · simp; omega
      · simp only at h2 ⊢; omega
    have h4 := needSt_next g lBrace _ h3.2
    simp only at h3 h4 ⊢; omega
  · have h4 := needSt_next g lBrace _ h1.2
    simp only; omega
theorem pRepeated_next (g : RG) (a : PT) (st : RS) (h : st.next ≤ g.rs.length) : st.next ≤ (pRepeated g a st).1.next ∧ (pRepeated g a st).1.next ≤ g.rs.length := by
  have key : ∀ l, inSet l (seeOf g st) = true → st.next ≤ (takeOf g lQuery { st with next := st.next + 1 }).next ∧ (takeOf g lQuery { st with next := st.next + 1 }).next ≤ g.rs.length := by
    intro l hl
    have h1 := seeOf_lt hl
    have := takeOf_next g lQuery { st with next := st.next + 1 } (by simp; omega)
    simp only at this
    omega
  unfold pRepeated
  split
  · rename_i hc; exact key _ hc
  · split
    · rename_i hc; exact key _ hc
    · split
      · rename_i hc; exact key _ hc
      · split
        · rename_i hc
          have h1 := seeOf_lt hc
          have h2 := pBounds_next g { st with next := st.next + 1 } (by simp; omega)
          simp only at h2 ⊢
          split
          · have := takeOf_next g lQuery ((pBounds g { st with next := st.next + 1 }).1.note 4 (placeOf g st)) (by rw [note_next]; exact h2.2)
            rw [note_next] at this
            omega
          · have := takeOf_next g lQuery (pBounds g { st with next := st.next + 1 }).1 h2.2
            omega
        · exact ⟨Nat.le_refl _, h⟩
theorem pAtom_next (g : RG) (alt : RS → RS × PT) (ha : AltFwd g alt) (st : RS) (h : st.next ≤ g.rs.length) : st.next ≤ (pAtom g alt st).1.next ∧ (pAtom g alt st).1.next ≤ g.rs.length ∧ (st.next < g.rs.length → st.next < (pAtom g alt st).1.next) := by
  unfold pAtom
  split
  · rename_i hc
    have h1 := seeOf_lt hc
    have h2 := pHead_next g { st with next := st.next + 1 } (by simp; omega)
    have h3 := ha (pHead g { st with next := st.next + 1 }) h2.2
    have h4 := needSt_next g lRound _ h3.2
    simp only [pBracket] at *
    omega
  · split
    · rename_i hc
      have h1 := seeOf_lt hc
      have h2 := pClass_next g { st with next := st.next + 1 } (by simp; omega)
      simp only at h2 ⊢; omega
    · split
      · rename_i hc
        have h1 := seeOf_lt hc
        have h2 := needSt_next g lEscape { st with next := st.next + 1 } (by simp; omega)
        simp only at h2 ⊢; omega
      · split
        · rename_i hc
          have h1 := seeOf_lt hc
          simp; omega
        · exact needOtherSt_next g lNotPlain st h

theorem pSeqs_end (g : RG) (alt : RS → RS × PT) (m : Nat) (st : RS) (acc : List PT) (h : seeOf g st = -1 ∨ inSet lBarRound (seeOf g st) = true) : pSeqs g alt m st acc = (st, acc) := by
  cases m with
  | zero => rfl
  | succ m => unfold pSeqs; rw [if_pos h]
theorem pSeqs_next (g : RG) (alt : RS → RS × PT) (ha : AltFwd g alt) : ∀ (m : Nat) (st : RS) (acc : List PT), st.next ≤ g.rs.length → st.next ≤ (pSeqs g alt m st acc).1.next ∧ (pSeqs g alt m st acc).1.next ≤ g.rs.length
  | 0, st, _, h => ⟨Nat.le_refl _, h⟩
  | m + 1, st, acc, h => by
    unfold pSeqs
    split
    · exact ⟨Nat.le_refl _, h⟩
    · have h1 := pAtom_next g alt ha st h
      have h2 := pRepeated_next g (pAtom g alt st).2 _ h1.2.1
      have h3 := pSeqs_next g alt ha m _ (acc ++ [(pRepeated g (pAtom g alt st).2 (pAtom g alt st).1).2]) h2.2
      omega
theorem pSeq_next (g : RG) (alt : RS → RS × PT) (ha : AltFwd g alt) (st : RS) (h : st.next ≤ g.rs.length) : st.next ≤ (pSeq g alt st).1.next ∧ (pSeq g alt st).1.next ≤ g.rs.length := pSeqs_next g alt ha _ st [] h
theorem pAlts_next (g : RG) (alt : RS → RS × PT) (ha : AltFwd g alt) : ∀ (m : Nat) (st : RS) (acc : List PT), st.next ≤ g.rs.length → st.next ≤ (pAlts g alt m st acc).1.next ∧ (pAlts g alt m st acc).1.next ≤ g.rs.length
  | 0, st, _, h => ⟨Nat.le_refl _, h⟩
  | m + 1, st, acc, h => by
    unfold pAlts
    split
    · rename_i hc
      have h1 := seeOf_lt hc
      have h2 := pSeq_next g alt ha { st with next := st.next + 1 } (by simp; omega)
      have h3 := pAlts_next g alt ha m _ (acc ++ [(pSeq g alt { st with next := st.next + 1 }).2]) h2.2
      simp only at h2 h3 ⊢
      omega
    · exact ⟨Nat.le_refl _, h⟩
theorem pAlt_fwd (g : RG) : ∀ k, AltFwd g (pAlt g k)
  | 0 => fun st h => ⟨Nat.le_refl _, h⟩
  | k + 1 => fun st h => by
    have ha := pAlt_fwd g k
    have h1 := pSeq_next g (pAlt g k) ha st h
    have h2 := pAlts_next g (pAlt g k) ha (g.rs.length + 1) _ [(pSeq g (pAlt g k) st).2] h1.2
    show st.next ≤ (pAlts g (pAlt g k) (g.rs.length + 1) (pSeq g (pAlt g k) st).1 [(pSeq g (pAlt g k) st).2]).1.next ∧ _
    exact ⟨by omega, h2.2⟩

theorem ownsRow_slice {w : World} {base e size n : Nat} {v : Value} {xs : List Value} (h : w.ownsRow base e size v n xs) : ∃ ao c, v = .slice ao n c := by
  rcases h.2 with ⟨rfl, rfl⟩ | ⟨g, cap, cur, rfl, _⟩
  · exact ⟨none, 0, rfl⟩
  · exact ⟨_, _, rfl⟩

/-- a node over a list, laid into the result's block -/
theorem list_close {w w3 : World} {g : RG} {st st' : RS} {ao : Option Addr} {n c : Nat} {qs : List Quad} {acc : List PT} {k : Int} (hR : RdAt w g st) (h3 : RdAt w3 g st') (ps : PsAt w3 (w.heap.size + 1) (.slice ao n c) qs acc) (hk : k = 0 ∨ k = 1 ∨ k = 2 ∨ (k = 3 ∧ acc ≠ []) ∨ k = 4) (k1 : Kept g.own w w3) :
    RdAt (setQuad w3 w.heap.size (.int .i64 k, .slice ao n c, .int .i64 0, .int .i64 0)) g st' ∧ PTAt (setQuad w3 w.heap.size (.int .i64 k, .slice ao n c, .int .i64 0, .int .i64 0)) w.heap.size (setQuad w3 w.heap.size (.int .i64 k, .slice ao n c, .int .i64 0, .int .i64 0)).heap.size (.agg #[.int .i64 k, .slice ao n c, .int .i64 0, .int .i64 0]) (.node k acc 0 0) ∧
    Kept g.own w (setQuad w3 w.heap.size (.int .i64 k, .slice ao n c, .int .i64 0, .int .i64 0)) := by
  have kq := setQuad_kept w3 w.heap.size (.int .i64 k, .slice ao n c, .int .i64 0, .int .i64 0)
  have ps' := ps.kept kq (fun i hi => by omega)
  exact ⟨h3.new hR kq (fun i hi => by omega), (ps'.node k 0 0 hk (by omega) (by omega)).widen (by omega) (Nat.le_refl _), k1.trans' kq (fun i hi he => by omega)⟩

set_option maxHeartbeats 1000000 in
theorem seq_rd {w : World} {g : RG} {st : RS} {k : Nat} (hA : AltOk g k) (hR : RdAt w g st) (hrem : g.rs.length - st.next ≤ k) :
    Calls Try.prog 41 #[.pointer (some ⟨g.b, 0, none⟩)] w fun e w' => ∃ v, e = .returned v ∧ RdAt w' g (pSeq g (pAlt g k) st).1 ∧ PTAt w' w.heap.size w'.heap.size v (pSeq g (pAlt g k) st).2 ∧ Kept g.own w w' := by
  have hlen := hR.len
  have hnl := hR.next
  have hnown : ∀ i, w.heap.size ≤ i → ¬ g.own i := fun i hi hx => by have := hR.own_lt hx; omega
  obtain ⟨i0, hi0, hz0, hz1, hz2⟩ := info_parts Try.infoNode
  unfold pSeq
  go_enter Try.func41, Try.ntmps41
  go_wp2_with fail
  have ha : RdAt (w.alloc (.cells #[.int .i64 0, .slice none 0 0, .int .i64 0, .int .i64 0] 53)) g st := hR.nil ((Kept.refl _ _).alloc _)
  have hka : Kept g.own w (w.alloc (.cells #[.int .i64 0, .slice none 0 0, .int .i64 0, .int .i64 0] 53)) := (Kept.refl _ _).alloc _
  have hb0 := Blk.new w #[.int .i64 0, .slice none 0 0, .int .i64 0, .int .i64 0] 53
  have hsz0 : w.heap.size + 1 ≤ (w.alloc (.cells #[.int .i64 0, .slice none 0 0, .int .i64 0, .int .i64 0] 53)).heap.size := by simp
  have hps := PsAt.nil (w.alloc (.cells #[.int .i64 0, .slice none 0 0, .int .i64 0, .int .i64 0] 53)) (w.heap.size + 1)
  go_loopg [3] (g.rs.length - st.next) (fun kk v wr => ∃ st1 m acc qs, RdAt wr g st1 ∧ PsAt wr (w.heap.size + 1) v qs acc ∧ Hid (pSeqs g (pAlt g k) m st1 acc = pSeqs g (pAlt g k) (g.rs.length + 1) st []) ∧ kk = g.rs.length - st1.next ∧ kk < m ∧ st.next ≤ st1.next ∧ acc.length ≤ st1.next ∧ Kept g.own w wr ∧ w.heap.size + 1 ≤ wr.heap.size ∧ Blk wr w.heap.size #[.int .i64 0, .slice none 0 0, .int .i64 0, .int .i64 0] 53)
  case atStart => exact ⟨st, g.rs.length + 1, [], [], ha, hps, rfl, rfl, by omega, Nat.le_refl _, by simp, hka, hsz0, hb0⟩
  case round =>
    obtain ⟨st1, m, acc, qs, hr, hPs, HP, rfl, hm, hge, hacc, hk, hsz, hb⟩ := hrel
    clear ha hka hb0 hsz0 hps
    have hle := hr.next
    by_cases hend : seeOf g st1 = -1
    · have hbb : (seeOf g st1 != -1) = false := by simp [hend]
      go_wp2_with fail
      refine (seeL hr).mono ?_
      rintro e w3 ⟨rfl, h3, hk3⟩
      have HE : Hid (pSeqs g (pAlt g k) (g.rs.length + 1) st [] = (st1, acc)) := by show _ = _; rw [← HP.out, pSeqs_end g _ m st1 acc (Or.inl hend)]
      clear hend
      clear HP
      have ps3 := hPs.kept hk3 (fun i hi => by have := hR.own_lt hi; omega)
      have b3 := hb.kept hk3 (hnown _ (Nat.le_refl _))
      have kw3 := hk.trans hk3
      have s3 := hk3.size
      obtain ⟨ao3, c3, hv3⟩ := ownsRow_slice ps3.own
      rw [hv3] at ps3 ⊢
      clear hv3 hPs hb hk hr
      have e0 : w3.cell? ⟨w.heap.size, 0, none⟩ = some (.int .i64 0) := b3.cell 0
      have e1 : w3.cell? ⟨w.heap.size, 1, none⟩ = some (.slice none 0 0) := b3.cell 1
      have e2 : w3.cell? ⟨w.heap.size, 2, none⟩ = some (.int .i64 0) := b3.cell 2
      have e3 : w3.cell? ⟨w.heap.size, 3, none⟩ = some (.int .i64 0) := b3.cell 3
      have g0 : w3.frozen? ⟨w.heap.size, 0, none⟩ = false := b3.frozen 0
      have g1 : w3.frozen? ⟨w.heap.size, 1, none⟩ = false := b3.frozen 1
      have g2 : w3.frozen? ⟨w.heap.size, 2, none⟩ = false := b3.frozen 2
      have g3 : w3.frozen? ⟨w.heap.size, 3, none⟩ = false := b3.frozen 3
      have hlt9 : w.heap.size < w3.heap.size := b3.lt
      go_wp2_with fail
      have fin := list_close (k := 2) hR h3 ps3 (by simp) kw3
      have bfin := setQuad_blk b3 rfl (.int .i64 2, .slice ao3 acc.length c3, .int .i64 0, .int .i64 0)
      simp only [setQuad] at fin bfin
      refine node_ret (i := 2) (b := w.heap.size) (q := (.int .i64 2, .slice ao3 acc.length c3, .int .i64 0, .int .i64 0)) Try.results41 ?_ ?_ ?_ ?_
      · rfl
      · rfl
      · exact bfin
      · rw [HE.out]; exact ⟨_, rfl, fin⟩
    · have hbb : (seeOf g st1 != -1) = true := by simp [hend]
      have hlt := lt_of_see hend
      clear hend
      cases hsq : inSet lBarRound (seeOf g st1)
      · go_wp2_with fail
        refine (seeL hr).mono ?_
        rintro e w3 ⟨rfl, h3, hk3⟩
        go_wp2_with fail
        refine (seesL h3 _ lBarRound (by rfl) (by decide)).mono ?_
        rintro e w4 ⟨rfl, h4, hk4⟩
        rw [hsq]
        go_wp2_with fail
        refine (atom_rd hA h4 (by omega)).mono ?_
        rintro e w5 ⟨v5, rfl, h5, hp5, hk5⟩
        obtain ⟨k', ao, n, cap, l, hh2, hv⟩ := hp5.quad
        rw [hv] at hp5 ⊢
        clear hv
        go_wp2_with fail
        refine (repeated_rd' h5 hp5 (Nat.le_refl _) hk5.size (fun i hi => h4.own_lt hi)).mono ?_
        rintro e w6 ⟨v6, rfl, h6, hp6, hk6⟩
        obtain ⟨k'', ao', n', cap', l', hh3, hv⟩ := hp6.quad
        rw [hv] at hp6 ⊢
        clear hv
        have kk4 := (hk3.trans hk4)
        have ps6 := hPs.kept ((kk4.trans hk5).trans hk6) (fun i hi => by have := hR.own_lt hi; omega)
        have hfew : acc.length ≤ 300 := by omega
        go_wp2_with (at_builtin; refine wpList_append_own_at _ rfl _ _ 51 rfl (w.heap.size + 1) 53 i0 _ 4 48 Try.underlying51 hi0 hz0 hz1 hz2 rfl (by decide) _ _ _ rfl (ps6.own.alloc _) ⟨w6.heap.size, 0, none⟩ 1 1 [.int .i64 k'', .slice ao' n' cap', .int .i64 l', .int .i64 hh3] rfl rfl ?c1 ?c2 ?c3 ?c4 ?c5 ?_)
        case c1 => exact quad_news (.int .i64 k'', .slice ao' n' cap', .int .i64 l', .int .i64 hh3)
        case c2 => intro u hu; simp at hu; rcases hu with rfl | rfl | rfl | rfl <;> rfl
        case c3 => unfold maxLen; omega
        case c4 => omega
        case c5 => have := kk4.size; have := hk5.size; have := hk6.size; simp; omega
        intro v' w7 hown' hgrow hnil hloc
        have s34 := kk4.size
        have s5 := hk5.size
        have s6 := hk6.size
        have ps4 := hPs.kept kk4 (fun i hi => by have := hR.own_lt hi; omega)
        have ka6 : Kept Nil w6 (w6.alloc (.cells #[.int .i64 k'', .slice ao' n' cap', .int .i64 l', .int .i64 hh3] 53)) := (Kept.refl _ _).alloc _
        have psn := PsAt.snoc (q := (.int .i64 k'', .slice ao' n' cap', .int .i64 l', .int .i64 hh3)) ps6 hp6 (by omega) (fun b hb => (ownsRow_block ps4.own hb).2) (Nat.le_refl _) ka6 hown' hgrow (by rw [size_alloc1]; exact hloc) (by omega)
        have k67 : Kept (fun i => u3.ownBlock = some i) w6 w7 := (ka6.mono (fun _ hx => hx.elim)).grown hgrow (fun j hj => Or.inl hj)
        have hge67 : ∀ i, u3.ownBlock = some i → w.heap.size + 1 ≤ i := fun i hi => (ownsRow_block ps4.own hi).1
        have h7 := h6.new hR k67 (fun i hi => by have := hge67 i hi; omega)
        have kw7 := (((hk.trans kk4).trans hk5).trans hk6).trans' k67 (fun i hi he => by have := hge67 i he; omega)
        have hb7 := (hb.kept ((kk4.trans hk5).trans hk6) (hnown _ (Nat.le_refl _))).kept k67 (fun he => by have := hge67 _ he; omega)
        have s7 := k67.size
        clear hown' hgrow hloc hnil ps6 ps4 hPs hk5 hk6 hk3 hk4 ka6 k67 hp5 hp6 hb
        have n1 := pAtom_next g (pAlt g k) (pAlt_fwd g k) st1 (by omega)
        have n2 := pRepeated_next g (pAtom g (pAlt g k) st1).2 _ n1.2.1
        have n3 := n1.2.2 hlt
        go_wp2_with fail
        go_roundg (g.rs.length - (pRepeated g (pAtom g (pAlt g k) st1).2 (pAtom g (pAlt g k) st1).1).1.next)
        case measure => omega
        case rel =>
          refine ⟨_, m - 1, _, _, h7, psn, ?_, rfl, by omega, by omega, by simp; omega, kw7, by omega, hb7⟩
          rw [← HP.out]
          obtain ⟨m', rfl⟩ : ∃ m', m = m' + 1 := ⟨m - 1, by omega⟩
          show pSeqs g (pAlt g k) m' _ _ = pSeqs g (pAlt g k) (m' + 1) st1 acc
          rw [show pSeqs g (pAlt g k) (m' + 1) st1 acc = if seeOf g st1 = -1 ∨ inSet lBarRound (seeOf g st1) = true then (st1, acc) else pSeqs g (pAlt g k) m' (pRepeated g (pAtom g (pAlt g k) st1).2 (pAtom g (pAlt g k) st1).1).1 (acc ++ [(pRepeated g (pAtom g (pAlt g k) st1).2 (pAtom g (pAlt g k) st1).1).2]) from rfl, if_neg (by simp [hsq]; simpa using hbb)]
      · go_wp2_with fail
        refine (seeL hr).mono ?_
        rintro e w2 ⟨rfl, h2, hk2⟩
        go_wp2_with fail
        refine (seesL h2 _ lBarRound (by rfl) (by decide)).mono ?_
        rintro e w3 ⟨rfl, h3, hk3'⟩
        have hk3 := hk2.trans hk3'
        rw [hsq]
        have HE : Hid (pSeqs g (pAlt g k) (g.rs.length + 1) st [] = (st1, acc)) := by show _ = _; rw [← HP.out, pSeqs_end g _ m st1 acc (Or.inr hsq)]
        clear HP
        have ps3 := hPs.kept hk3 (fun i hi => by have := hR.own_lt hi; omega)
        have b3 := hb.kept hk3 (hnown _ (Nat.le_refl _))
        have kw3 := hk.trans hk3
        have s3 := hk3.size
        obtain ⟨ao3, c3, hv3⟩ := ownsRow_slice ps3.own
        rw [hv3] at ps3 ⊢
        clear hv3 hPs hb hk hr
        have e0 : w3.cell? ⟨w.heap.size, 0, none⟩ = some (.int .i64 0) := b3.cell 0
        have e1 : w3.cell? ⟨w.heap.size, 1, none⟩ = some (.slice none 0 0) := b3.cell 1
        have e2 : w3.cell? ⟨w.heap.size, 2, none⟩ = some (.int .i64 0) := b3.cell 2
        have e3 : w3.cell? ⟨w.heap.size, 3, none⟩ = some (.int .i64 0) := b3.cell 3
        have g0 : w3.frozen? ⟨w.heap.size, 0, none⟩ = false := b3.frozen 0
        have g1 : w3.frozen? ⟨w.heap.size, 1, none⟩ = false := b3.frozen 1
        have g2 : w3.frozen? ⟨w.heap.size, 2, none⟩ = false := b3.frozen 2
        have g3 : w3.frozen? ⟨w.heap.size, 3, none⟩ = false := b3.frozen 3
        have hlt9 : w.heap.size < w3.heap.size := b3.lt
        go_wp2_with fail
        have fin := list_close (k := 2) hR h3 ps3 (by simp) kw3
        have bfin := setQuad_blk b3 rfl (.int .i64 2, .slice ao3 acc.length c3, .int .i64 0, .int .i64 0)
        simp only [setQuad] at fin bfin
        refine node_ret (i := 2) (b := w.heap.size) (q := (.int .i64 2, .slice ao3 acc.length c3, .int .i64 0, .int .i64 0)) Try.results41 ?_ ?_ ?_ ?_
        · rfl
        · rfl
        · exact bfin
        · rw [HE.out]; exact ⟨_, rfl, fin⟩
end Go.Proofs.Ytlimhofdonkljaa
