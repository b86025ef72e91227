/- The program's inOrder does what the mirror says. -/
import Derived.Test.YtnbfddjaonlmaaaGreatDoorP26
namespace Go.Proofs.YtnbfddjaonlmaaaGreatDoor
open Go.RowKit Go.Maps
set_option linter.unusedVariables false
set_option maxRecDepth 100000

/-- one more number -/
theorem SoAt.filled {w W w7 : World} {b base : Nat} {sv nv ov lv nv' : Value} {num : List Int} {ord lat : List Nat} (h : SoAt w b base sv nv ov lv ⟨num, ord, lat⟩) (t : Int) (k0 : Kept Nil w W) (hown : w7.ownsRow base 3 1 nv' (num.length + 1) (intL num ++ [.int .i64 t])) (hg : W.grownBy w7 nv.ownBlock) (hloc : nv'.ownBlock = nv.ownBlock ∨ nv'.ownBlock = some W.heap.size) :
    Blk w7 b #[sv, nv, ov, lv] 112 ∧ SoAt (w7.setCell ⟨b, 1, none⟩ nv') b base sv nv' ov lv ⟨num ++ [t], ord, lat⟩ ∧ Kept (OwnT b nv ov lv) w (w7.setCell ⟨b, 1, none⟩ nv') := by
  have hszW := k0.size
  have k7 : Kept (fun i => nv.ownBlock = some i) w w7 := (k0.mono (fun i hx => hx.elim)).grown hg (fun j hj => Or.inl hj)
  have hlb : nv.ownBlock ≠ some b := fun e => (h.an b e).1 rfl
  have b7 := h.blk.kept k7 hlb
  have hloc' : ∀ i, nv'.ownBlock = some i → nv.ownBlock = some i ∨ w.heap.size ≤ i := by
    intro i hi
    rcases hloc with hl | hl
    · exact Or.inl (hl ▸ hi)
    · rw [hl] at hi; cases hi; right; omega
  have k8 : Kept (OwnT b nv ov lv) w (w7.setCell ⟨b, 1, none⟩ nv') := Kept.setCell (S := OwnT b nv ov lv) (k7.mono (S' := OwnT b nv ov lv) (fun i hi => Or.inr (Or.inl hi))) (p := ⟨b, 1, none⟩) (Or.inl (Or.inl rfl)) _
  have kb : Kept (fun i => i = b) w7 (w7.setCell ⟨b, 1, none⟩ nv') := (Kept.refl (fun i => i = b) w7).setCell (p := ⟨b, 1, none⟩) (Or.inl rfl) nv'
  have hnb : ∀ i, nv'.ownBlock = some i → i ≠ b := fun i hi e => by
    subst e
    rcases hloc' i hi with h1 | h1
    · exact hlb h1
    · have := h.blk.lt; omega
  refine ⟨b7, ⟨?_, ?_, ?_, ?_, h.bb, fun i hi => ?_, h.ao, h.al⟩, k8⟩
  · have := b7.setCell 1 nv'
    simpa using this
  · have e2 : intL (num ++ [t]) = intL num ++ [.int .i64 t] := by simp [intL]
    show World.ownsRow _ base 3 1 nv' (num ++ [t]).length (intL (num ++ [t]))
    rw [List.length_append, e2]
    exact ownsRow_kept hown kb (fun i hi e => hnb i hi e)
  · exact ownsRow_kept (ownsRow_kept h.ord k7 (fun i hi hx => (h.an i hx).2.1 hi)) kb (fun i hi e => (h.ao i hi).1 e)
  · exact ownsRow_kept (ownsRow_kept h.lat k7 (fun i hi hx => (h.an i hx).2.2 hi)) kb (fun i hi e => h.al i hi e)
  · refine ⟨hnb i hi, fun e => ?_, fun e => ?_⟩
    · rcases hloc' i hi with h1 | h1
      · exact (h.an i h1).2.1 e
      · have := ownsRow_block h.ord e; omega
    · rcases hloc' i hi with h1 | h1
      · exact (h.an i h1).2.2 e
      · have := ownsRow_block h.lat e; omega

/-- the sorter at the beginning -/
theorem SoAt.first (w : World) (sv : Value) (start : Nat) : SoAt ((w.alloc (.cells #[.int .i64 (start : Int)] 3)).alloc (.cells #[sv, .slice none 0 0, .slice none 0 0, .slice (some ⟨w.heap.size, 0, none⟩) 1 1] 112)) (w.heap.size + 1) w.heap.size sv (.slice none 0 0) (.slice none 0 0) (.slice (some ⟨w.heap.size, 0, none⟩) 1 1) ⟨[], [], [start]⟩ where
  blk := by have := Blk.new (w.alloc (.cells #[.int .i64 (start : Int)] 3)) #[sv, .slice none 0 0, .slice none 0 0, .slice (some ⟨w.heap.size, 0, none⟩) 1 1] 112; simpa using this
  num := World.ownsRow_nil _ _ _ _
  ord := World.ownsRow_nil _ _ _ _
  lat := by
    refine ⟨by simp [natL], Or.inr ⟨w.heap.size, 1, #[.int .i64 (start : Int)], rfl, Nat.le_refl _, ?_, Nat.le_refl _, by unfold maxLen; omega, by simp, by simp [natL]⟩⟩
    have := (Blk.new w #[.int .i64 (start : Int)] 3).alloc (.cells #[sv, .slice none 0 0, .slice none 0 0, .slice (some ⟨w.heap.size, 0, none⟩) 1 1] 112)
    exact this
  bb := Nat.le_succ _
  an i hi := by cases hi
  ao i hi := by cases hi
  al i hi := by
    have e : w.heap.size = i := Option.some.inj hi
    omega

theorem Lates.grow {M : List MS} {at_ : Nat} {V V' : VS} (h : Lates M at_ V V') : V'.num.length = V.num.length ∧ V.ord.length ≤ V'.ord.length ∧ V.lat.length ≤ V'.lat.length := by
  induction h with
  | done a V h => exact ⟨rfl, Nat.le_refl _, Nat.le_refl _⟩
  | step a V V' V2 t h hv hl ih => have := hv.grow; omega

theorem Kept.nil_of {w w1 w2 : World} {K : Nat → Prop} (h : Kept Nil w w1) (k : Kept K w1 w2) (hK : ∀ i, K i → w.heap.size ≤ i) : Kept Nil w w2 := h.trans' k (fun i hi hx => by have := hK i hx; omega)

/-- what the writing of new numbers reads -/
def OrS (b L gn mn mo : Nat) (nv : Value) (un uo : Int) (w' : World) : Prop := (w'.cell? ⟨b, 1, none⟩ = some nv ∧ w'.cell? ⟨L, 5, none⟩ = some (.int .i64 (mo : Int))) ∧ w'.cell? ⟨gn, mn, none⟩ = some (.int .i64 un) ∧ w'.cell? ⟨gn, mo, none⟩ = some (.int .i64 uo)
theorem SvAt.turn {w : World} {lo hi : Nat} {s : Sv} {m : MS} (h : SvAt w lo hi s m) (a b : Int) : SvAt w lo hi ⟨s.k, s.sa, s.sn, s.sc, s.ed, s.sl, a, b⟩ { m with next := a, other := b } := ⟨h.k, h.ed, h.sl, rfl, rfl, h.kr, h.set⟩
theorem StsAt.at {w : World} {g : Nat} {vs : List Sv} {M : List MS} (h : StsAt w g vs M) {s : Nat} (hs : s < M.length) : ∃ q : Sv, (∃ hv : s < vs.length, vs[s] = q) ∧ (q.k = (M[s]).kind ∧ q.nx = (M[s]).next ∧ q.ot = (M[s]).other) ∧ ∀ W, StsAt W g vs M → (W.cell? ⟨g, s * 6, none⟩ = some (.int .i64 q.k) ∧ W.cell? ⟨g, s * 6 + 1, none⟩ = some (.slice q.sa q.sn q.sc) ∧ W.cell? ⟨g, s * 6 + 2, none⟩ = some (.int .i64 q.ed) ∧ W.cell? ⟨g, s * 6 + 3, none⟩ = some (.int .i64 q.sl) ∧ W.cell? ⟨g, s * 6 + 4, none⟩ = some (.int .i64 q.nx) ∧ W.cell? ⟨g, s * 6 + 5, none⟩ = some (.int .i64 q.ot)) := by
  have hv : s < vs.length := by rw [h.len]; exact hs
  exact ⟨vs[s], ⟨hv, rfl⟩, h.like s hv hs, fun W hW => ⟨hW.cell s hv 0 (by omega), hW.cell s hv 1 (by omega), hW.cell s hv 2 (by omega), hW.cell s hv 3 (by omega), hW.cell s hv 4 (by omega), hW.cell s hv 5 (by omega)⟩⟩
theorem sv_news2 (w : World) (q : Sv) (k : Nat) (hk : w.heap.size = k) (j : Nat) (u : Value) (h : q.cells.toList[j]? = some u) : (w.alloc (.cells q.cells 94)).drew.cell? (Addr.add ⟨k, 0, none⟩ j) = some u := by subst hk; exact sv_news q j u h

set_option maxHeartbeats 4000000 in
theorem inOrder_rd {w : World} {lo hi g c start : Nat} {vs : List Sv} {M : List MS} {VF : VS} (hM : StsAt w g vs M) (hsv : ∀ i, (h : i < vs.length) → (h' : i < M.length) → SvAt w lo hi vs[i] M[i]) (hlh : hi ≤ w.heap.size) (hok : AllOk M) (hfew : M.length ≤ 4001) (hL : Lates M 0 (VS.first M.length start) VF)
    (hord : VF.ord.length ≤ 4001) (hlat : VF.lat.length ≤ 4002) (hin : ∀ s ∈ VF.ord, s < M.length) (hst : start < M.length) :
    Calls Tryz.prog 35 #[.slice (some ⟨g, 0, none⟩) M.length c, .int .i64 (start : Int)] w fun e w' => ∃ (v' : Value) (ws : List Sv), e = .returned (.tuple #[v', .int .i64 (VF.num.getD start 0)]) ∧ Kept Nil w w' ∧ w'.ownsRow w.heap.size 94 6 v' VF.ord.length (flatS ws) ∧ ws.length = VF.ord.length ∧
      ∀ i, (h : i < ws.length) → (h' : i < (sorted M VF).length) → SvAt w' lo hi ws[i] (sorted M VF)[i] := by
  obtain ⟨i0, hi0, hz0, hz1, hz2⟩ := info_parts Tryz.infoInt0
  have hgl := hM.lt
  have START := hid (SoAt.first w (.slice (some ⟨g, 0, none⟩) M.length c) start)
  have K0 : Hid (Kept Nil w ((w.alloc (.cells #[.int .i64 (start : Int)] 3)).alloc (.cells #[.slice (some ⟨g, 0, none⟩) M.length c, .slice none 0 0, .slice none 0 0, .slice (some ⟨w.heap.size, 0, none⟩) 1 1] 112))) := ((Kept.refl Nil w).alloc _).alloc _
  have HM := hid hM
  have HSV := hid hsv
  have HOK := hid hok
  have HL := hid hL
  have HIN := hid hin
  have HLN0 : Hid (VF.num.length = M.length) := hid (by have := hL.grow.1; simpa [VS.first] using this)
  clear hM hsv hok hL hin
  go_enter Tryz.func35, Tryz.ntmps35
  go_wp2_with fail
  go_loopg [19] M.length (fun kk i wr => ∃ (k : Nat) (nv : Value), i = .int .i64 (k : Int) ∧ k ≤ M.length ∧ kk = M.length - k ∧ Hid (SoAt wr (w.heap.size + 1) w.heap.size (.slice (some ⟨g, 0, none⟩) M.length c) nv (.slice none 0 0) (.slice (some ⟨w.heap.size, 0, none⟩) 1 1) ⟨List.replicate k (-1), [], [start]⟩) ∧ Hid (Kept Nil w wr))
  case atStart => exact ⟨0, .slice none 0 0, rfl, Nat.zero_le _, rfl, START.out, K0.out⟩
  case round =>
    obtain ⟨k, nv, rfl, hk, hkk, HS, HK⟩ := hrel
    clear START K0
    by_cases hlt : k < M.length
    · have hnum : Hid (∀ W, Kept Nil wr W → W.ownsRow w.heap.size 3 1 nv k (intL (List.replicate k (-1)))) := fun W hW => by
        have := ownsRow_kept HS.out.num hW (fun i _ hx => hx)
        simpa using this
      obtain ⟨aon, cn, hnv⟩ := ownsRow_slice (hnum.out wr (Kept.refl _ _))
      subst hnv
      have c1 : wr.cell? ⟨w.heap.size + 1, 1, none⟩ = some (.slice aon k cn) := HS.out.blk.cell 1
      have hbl := HS.out.blk.lt
      have hlt2 : (k : Int) < (M.length : Int) := by omega
      have hks := HK.out.size
      go_wp2_with (at_builtin; refine wpList_append_own_at _ rfl _ _ 22 rfl w.heap.size 3 i0 _ 1 8 Tryz.underlying22 hi0 hz0 hz1 hz2 rfl (by decide) _ _ _ rfl (hnum.out _ ((Kept.refl _ _).alloc _)) _ 1 1 [.int .i64 (-1)] rfl rfl ?c1 ?c2 ?c3 ?c4 ?c5 ?_)
      case c1 => exact natL_new _ (-1)
      case c2 => exact int_one _
      case c3 => unfold maxLen; omega
      case c4 => omega
      case c5 => simp; omega
      intro v' w7 hown' hgrow hnil hloc
      obtain ⟨ao', c', rfl⟩ := ownsRow_slice hown'
      obtain ⟨b7, fin, kfin⟩ := HS.out.filled (-1) ((Kept.refl Nil wr).alloc (.cells #[.int .i64 (-1)] 3)) (by simpa using hown') hgrow (by simpa using hloc)
      have c7 : w7.cell? ⟨w.heap.size + 1, 1, none⟩ = some (.slice aon k cn) := b7.cell 1
      have f7 : w7.frozen? ⟨w.heap.size + 1, 1, none⟩ = false := b7.frozen 1
      have FIN := hid fin
      have KFIN := hid (HK.out.nil_of kfin (fun i hi => (HS.out.own hi).1))
      clear hnum HS HK b7 fin kfin
      go_wp2_with fail
      go_roundg (M.length - (k + 1))
      case measure => omega
      case rel => exact ⟨k + 1, _, by simp, by omega, rfl, by have := FIN.out; rw [← List.replicate_succ'] at this; exact this, KFIN⟩
    · have hk' : k = M.length := by omega
      subst hk'
      have hlt2 : ¬ (M.length : Int) < (M.length : Int) := by omega
      go_wp2_with fail
      go_loopg [7] VF.lat.length (fun kk i wr2 => ∃ (at_ : Nat) (V : VS) (ov lv : Value), i = .int .i64 (at_ : Int) ∧ kk = VF.lat.length - at_ ∧ Hid (Lates M at_ V VF) ∧ Hid (SoAt wr2 (w.heap.size + 1) w.heap.size (.slice (some ⟨g, 0, none⟩) M.length c) nv ov lv V) ∧ Hid (Kept Nil w wr2))
      case atStart => exact ⟨0, ⟨List.replicate M.length (-1), [], [start]⟩, _, _, rfl, rfl, HL, HS, HK⟩
      case round =>
        obtain ⟨at_, V, ov, lv, rfl, hkk2, HL2, HS2, HK2⟩ := hrel
        clear HS HK HL
        obtain ⟨w2, hw2⟩ : ∃ w2, w2 = wr := ⟨_, rfl⟩
        subst hw2
        by_cases hlt3 : at_ < V.lat.length
        · obtain ⟨gl, cl, hlv, l1, l2, l3, l4, l5⟩ := row_get HS2.out.lat (by omega)
          subst hlv
          have c3 : w2.cell? ⟨w.heap.size + 1, 3, none⟩ = some (.slice (some ⟨gl, 0, none⟩) V.lat.length cl) := HS2.out.blk.cell 3
          have hit : (at_ : Int) < (V.lat.length : Int) := by omega
          have hit2 : ¬ ((V.lat.length : Int) ≤ (at_ : Int)) := by omega
          have hstep : ∃ (t : Nat) (V' : VS), V.lat[at_]? = some t ∧ Vis M V t V' ∧ Lates M (at_ + 1) V' VF := by
            cases HL2.out with
            | done _ _ h => omega
            | step _ _ V' _ t h hv hl => exact ⟨t, V', h, hv, hl⟩
          obtain ⟨t, V', ht, hv, hl⟩ := hstep
          have ct : w2.cell? ⟨gl, at_, none⟩ = some (.int .i64 (t : Int)) := by rw [l4 at_ hlt3]; simp [natL, ht]
          have gr := hl.grow
          have grv := hv.grow
          have F1 := hid (visit_rd (vs := vs) (c := c) hgl (fun i m him => (HOK.out m (List.mem_of_getElem? him)).1.1) hv (by omega) (by omega) w2 ov _ HS2.out (HM.out.kept HK2.out (fun hx => hx)))
          have HLN := hid hl
          clear l4 l5 ht hv hl HL2
          go_wp2_with fail
          refine (F1.out).mono ?_
          rintro e w4 ⟨rfl, ov4, lv4, h4, hM4, k4⟩
          have KN := hid (HK2.out.nil_of k4.kept (fun i hi => (HS2.out.own hi).1))
          have HN := hid h4
          clear h4 hM4 k4 HS2 HK2 F1
          go_wp2_with fail
          go_roundg (VF.lat.length - (at_ + 1))
          case measure => omega
          case rel => exact ⟨at_ + 1, V', ov4, lv4, by simp, rfl, HLN, HN, KN⟩
        · have hVF : V = VF := by
            cases HL2.out with
            | done _ _ h => rfl
            | step _ _ V' _ t h hv hl => have := (List.getElem?_eq_some_iff.1 h).1; omega
          subst hVF
          have HLN : Hid (V.num.length = M.length) := HLN0.out
          obtain ⟨aol, cl, hlv⟩ := ownsRow_slice HS2.out.lat
          subst hlv
          obtain ⟨aoo, co, hov⟩ := ownsRow_slice HS2.out.ord
          subst hov
          have c3 : w2.cell? ⟨w.heap.size + 1, 3, none⟩ = some (.slice aol V.lat.length cl) := HS2.out.blk.cell 3
          have c2 : w2.cell? ⟨w.heap.size + 1, 2, none⟩ = some (.slice aoo V.ord.length co) := HS2.out.blk.cell 2
          have hit : ¬ ((at_ : Int) < (V.lat.length : Int)) := by omega
          go_wp2_with fail
          go_loopg [8, 54] V.ord.length (fun kk s8 i wr3 => ∃ (k : Nat) (ws : List Sv), i = .int .i64 (k : Int) ∧ k ≤ V.ord.length ∧ kk = V.ord.length - k ∧ ws.length = k ∧ Hid (wr3.ownsRow w.heap.size 94 6 s8 k (flatS ws)) ∧ Hid (∀ i, s8.ownBlock = some i → w2.heap.size ≤ i) ∧ Hid (∀ i, (h : i < ws.length) → (h' : i < (sorted M V).length) → SvAt wr3 lo hi ws[i] (sorted M V)[i]) ∧ Hid (Kept Nil w2 wr3))
          case atStart => exact ⟨0, [], rfl, Nat.zero_le _, rfl, rfl, World.ownsRow_nil _ _ _ _, (fun i hi => by cases hi), (fun i h => by cases h), Kept.refl _ _⟩
          case round =>
            obtain ⟨k, ws, rfl, hk3, hkk3, hwl, HR3, HO3, HV3, HK3⟩ := hrel
            by_cases hlt4 : k < V.ord.length
            · obtain ⟨go, co', hox, o1, o2, o3, o4, o5⟩ := row_get HS2.out.ord (by omega)
              cases hox
              have hsM : V.ord[k] < M.length := HIN.out _ (List.getElem_mem hlt4)
              obtain ⟨q, ⟨hqv, hqe⟩, ⟨q1, q2, q3⟩, qc⟩ := (HM.out).at hsM
              have hSok := HOK.out _ (List.getElem_mem hsM)
              unfold SOk at hSok
              have K2 := HK2.out.trans HK3.out
              obtain ⟨d0, d1, d2, d3, d4, d5⟩ := qc wr (HM.out.kept K2 (fun hx => hx))
              have hSV := (HSV.out _ hqv hsM).kept K2 (fun _ _ _ hx => hx) hlh
              rw [hqe] at hSV
              have hres : (sorted M V)[k]'(by simpa [sorted] using hlt4) = { M[V.ord[k]] with next := V.num.getD (M[V.ord[k]]).next.toNat 0, other := V.num.getD (M[V.ord[k]]).other.toNat 0 } := by
                simp [sorted, List.getD_eq_getElem?_getD, List.getElem?_eq_getElem hsM]
              obtain ⟨qk, qsa, qsn, qsc, qed, qsl, qnx, qot⟩ := q
              simp only at q1 q2 q3 d0 d1 d2 d3 d4 d5
              generalize hm : M[V.ord[k]] = m at *
              obtain ⟨mn, hmn⟩ : ∃ mn : Nat, m.next = (mn : Int) := ⟨m.next.toNat, by omega⟩
              obtain ⟨mo, hmo⟩ : ∃ mo : Nat, m.other = (mo : Int) := ⟨m.other.toNat, by omega⟩
              rw [hmn] at q2
              rw [hmo] at q3
              subst q1 q2 q3
              have hnum := HLN.out
              obtain ⟨gn, cn, hnx, n1, n2, n3, n4, n5⟩ := row_get HS2.out.num (by omega)
              subst hnx
              have hmnl : mn < V.num.length := by omega
              have hmol : mo < V.num.length := by omega
              have cn1 : w2.cell? ⟨gn, mn, none⟩ = some (.int .i64 (V.num.getD mn 0)) := by rw [n4 mn hmnl]; simp [intL, hmnl]
              have cn2 : w2.cell? ⟨gn, mo, none⟩ = some (.int .i64 (V.num.getD mo 0)) := by rw [n4 mo hmol]; simp [intL, hmol]
              rw [hmn, hmo] at hres
              simp only [Int.toNat_natCast] at hres
              generalize V.num.getD mn 0 = un at *
              generalize V.num.getD mo 0 = uo at *
              generalize hs : V.ord[k] = s at *
              have ck : wr.cell? ⟨go, k, none⟩ = some (.int .i64 (s : Int)) := (HK3.out.cell (p := ⟨go, k, none⟩) o2 (fun hx => hx)).trans (by rw [o4 k hlt4]; simp [natL, hlt4, hs])
              have e1 : wr.cell? ⟨gn, mn, none⟩ = some (.int .i64 un) := (HK3.out.cell (p := ⟨gn, mn, none⟩) n2 (fun hx => hx)).trans cn1
              have e2 : wr.cell? ⟨gn, mo, none⟩ = some (.int .i64 uo) := (HK3.out.cell (p := ⟨gn, mo, none⟩) n2 (fun hx => hx)).trans cn2
              have eb : wr.cell? ⟨w.heap.size + 1, 1, none⟩ = some (.slice (some ⟨gn, 0, none⟩) V.num.length cn) := (HS2.out.new HK3.out).blk.cell 1
              have hbl := (HS2.out.new HK3.out).blk.lt
              have hks := HK3.out.size
              have hks2 := HK2.out.size
              have hit4 : (k : Int) < (V.ord.length : Int) := by omega
              have hit5 : ¬ ((V.ord.length : Int) ≤ (k : Int)) := by omega
              have hit6 : ¬ ((M.length : Int) ≤ (s : Int)) := by omega
              have hit7 : ¬ ((V.num.length : Int) ≤ (mn : Int)) := by omega
              have hit8 : ¬ ((V.num.length : Int) ≤ (mo : Int)) := by omega
              have kA : Kept Nil wr ((wr.alloc (.cells #[.int .i64 m.kind, .slice qsa qsn qsc, .int .i64 qed, .int .i64 qsl, .int .i64 (mn : Int), .int .i64 (mo : Int)] 94)).drew) := ((Kept.refl Nil wr).alloc _).drew
              have kB : Kept Nil wr ((wr.alloc (.cells #[.int .i64 m.kind, .slice qsa qsn qsc, .int .i64 qed, .int .i64 qsl, .int .i64 un, .int .i64 (mo : Int)] 94)).drew) := ((Kept.refl Nil wr).alloc _).drew
              have PSA : Hid (OrS (w.heap.size + 1) wr.heap.size gn mn mo (.slice (some ⟨gn, 0, none⟩) V.num.length cn) un uo ((wr.alloc (.cells #[.int .i64 m.kind, .slice qsa qsn qsc, .int .i64 qed, .int .i64 qsl, .int .i64 (mn : Int), .int .i64 (mo : Int)] 94)).drew)) := ⟨⟨(kA.cell (p := ⟨w.heap.size + 1, 1, none⟩) hbl (fun hx => hx)).trans eb, (Blk.new wr #[.int .i64 m.kind, .slice qsa qsn qsc, .int .i64 qed, .int .i64 qsl, .int .i64 (mn : Int), .int .i64 (mo : Int)] 94).drew.cell 5⟩, (kA.cell (p := ⟨gn, mn, none⟩) (by show gn < _; omega) (fun hx => hx)).trans e1, (kA.cell (p := ⟨gn, mo, none⟩) (by show gn < _; omega) (fun hx => hx)).trans e2⟩
              have PSB : Hid (OrS (w.heap.size + 1) wr.heap.size gn mn mo (.slice (some ⟨gn, 0, none⟩) V.num.length cn) un uo ((wr.alloc (.cells #[.int .i64 m.kind, .slice qsa qsn qsc, .int .i64 qed, .int .i64 qsl, .int .i64 un, .int .i64 (mo : Int)] 94)).drew)) := ⟨⟨(kB.cell (p := ⟨w.heap.size + 1, 1, none⟩) hbl (fun hx => hx)).trans eb, (Blk.new wr #[.int .i64 m.kind, .slice qsa qsn qsc, .int .i64 qed, .int .i64 qsl, .int .i64 un, .int .i64 (mo : Int)] 94).drew.cell 5⟩, (kB.cell (p := ⟨gn, mn, none⟩) (by show gn < _; omega) (fun hx => hx)).trans e1, (kB.cell (p := ⟨gn, mo, none⟩) (by show gn < _; omega) (fun hx => hx)).trans e2⟩
              have HSQ := hid (hSV.turn un uo)
              have HRES := hid hres
              clear hnum hSV hres qc o4 o5 n4 n5 cn1 cn2 kA kB hSok K2
              go_wp2_with fail
              refine wp_region_last (S := OrS (w.heap.size + 1) wr.heap.size gn mn mo (.slice (some ⟨gn, 0, none⟩) V.num.length cn) un uo) 19 (by kernel_rfl) rfl rfl rfl (by kernel_rfl) (by kernel_rfl) ?_
              have hS0 := PSA.out
              refine takeH 0 62 (.pointer (some ⟨w.heap.size + 1, 0, none⟩)) rfl rfl (by kernel_rfl) (by kernel_rfl) (by kernel_rfl) (fun _ _ _ h => h) (Or.inl ⟨by rfl, fun W hSW => by obtain ⟨⟨s1, s2⟩, s3, s4⟩ := hSW; go_simp⟩) hS0 ?_
              refine takeH 1 63 (.pointer (some ⟨w.heap.size + 1, 0, none⟩)) rfl rfl (by kernel_rfl) (by kernel_rfl) (by kernel_rfl) (fun _ _ _ h => h) (Or.inl ⟨by rfl, fun W hSW => by obtain ⟨⟨s1, s2⟩, s3, s4⟩ := hSW; go_simp⟩) hS0 ?_
              refine takeH 2 64 (.pointer (some ⟨w.heap.size + 1, 1, none⟩)) rfl rfl (by kernel_rfl) (by kernel_rfl) (by kernel_rfl) (fun _ _ _ h => h) (Or.inl ⟨by rfl, fun W hSW => by obtain ⟨⟨s1, s2⟩, s3, s4⟩ := hSW; go_simp⟩) hS0 ?_
              refine takeH 3 65 (.slice (some ⟨gn, 0, none⟩) V.num.length cn) rfl rfl (by kernel_rfl) (by kernel_rfl) (by kernel_rfl) (fun _ _ _ h => h) (Or.inl ⟨by rfl, fun W hSW => by obtain ⟨⟨s1, s2⟩, s3, s4⟩ := hSW; go_simp⟩) hS0 ?_
              refine takeH 4 66 (.pointer (some ⟨wr.heap.size, 4, none⟩)) rfl rfl (by kernel_rfl) (by kernel_rfl) (by kernel_rfl) (fun _ _ _ h => h) (Or.inl ⟨by rfl, fun W hSW => by obtain ⟨⟨s1, s2⟩, s3, s4⟩ := hSW; go_simp⟩) hS0 ?_
              refine takeH 8 70 (.pointer (some ⟨w.heap.size + 1, 0, none⟩)) rfl rfl (by kernel_rfl) (by kernel_rfl) (by kernel_rfl) (fun _ _ _ h => h) (Or.inl ⟨by rfl, fun W hSW => by obtain ⟨⟨s1, s2⟩, s3, s4⟩ := hSW; go_simp⟩) hS0 ?_
              refine takeH 9 71 (.pointer (some ⟨w.heap.size + 1, 0, none⟩)) rfl rfl (by kernel_rfl) (by kernel_rfl) (by kernel_rfl) (fun _ _ _ h => h) (Or.inl ⟨by rfl, fun W hSW => by obtain ⟨⟨s1, s2⟩, s3, s4⟩ := hSW; go_simp⟩) hS0 ?_
              refine takeH 10 72 (.pointer (some ⟨w.heap.size + 1, 1, none⟩)) rfl rfl (by kernel_rfl) (by kernel_rfl) (by kernel_rfl) (fun _ _ _ h => h) (Or.inl ⟨by rfl, fun W hSW => by obtain ⟨⟨s1, s2⟩, s3, s4⟩ := hSW; go_simp⟩) hS0 ?_
              refine takeH 11 73 (.slice (some ⟨gn, 0, none⟩) V.num.length cn) rfl rfl (by kernel_rfl) (by kernel_rfl) (by kernel_rfl) (fun _ _ _ h => h) (Or.inl ⟨by rfl, fun W hSW => by obtain ⟨⟨s1, s2⟩, s3, s4⟩ := hSW; go_simp⟩) hS0 ?_
              refine takeH 12 74 (.pointer (some ⟨wr.heap.size, 5, none⟩)) rfl rfl (by kernel_rfl) (by kernel_rfl) (by kernel_rfl) (fun _ _ _ h => h) (Or.inl ⟨by rfl, fun W hSW => by obtain ⟨⟨s1, s2⟩, s3, s4⟩ := hSW; go_simp⟩) hS0 ?_
              refine takeH 13 75 (.int .i64 (mo : Int)) rfl rfl (by kernel_rfl) (by kernel_rfl) (by kernel_rfl) (fun _ _ _ h => h) (Or.inl ⟨by rfl, fun W hSW => by obtain ⟨⟨s1, s2⟩, s3, s4⟩ := hSW; go_simp⟩) hS0 ?_
              refine takeH 14 76 (.pointer (some ⟨gn, mo, none⟩)) rfl rfl (by kernel_rfl) (by kernel_rfl) (by kernel_rfl) (fun _ _ _ h => h) (Or.inl ⟨by rfl, fun W hSW => by obtain ⟨⟨s1, s2⟩, s3, s4⟩ := hSW; go_simp⟩) hS0 ?_
              refine takeH 15 77 (.int .i64 uo) rfl rfl (by kernel_rfl) (by kernel_rfl) (by kernel_rfl) (fun _ _ _ h => h) (Or.inl ⟨by rfl, fun W hSW => by obtain ⟨⟨s1, s2⟩, s3, s4⟩ := hSW; go_simp⟩) hS0 ?_
              simp only [Act.put, List.setIfInBounds_toArray, List.set_cons_zero, List.set_cons_succ]
              refine wpAnyH_ready (rs := [5]) (by kernel_rfl) (by simp) (AllReadyH.cons rfl (fun K hK => ?_) AllReadyH.nil)
              go_simp
              refine hK.out _ _ hS0 (fun _ => ?_)
              clear hK K
              refine takeH 6 68 (.pointer (some ⟨gn, mn, none⟩)) rfl rfl (by kernel_rfl) (by kernel_rfl) (by kernel_rfl) (fun _ _ _ h => h) (Or.inl ⟨by rfl, fun W hSW => by obtain ⟨⟨s1, s2⟩, s3, s4⟩ := hSW; go_simp⟩) hS0 ?_
              refine takeH 7 69 (.int .i64 un) rfl rfl (by kernel_rfl) (by kernel_rfl) (by kernel_rfl) (fun _ _ _ h => h) (Or.inl ⟨by rfl, fun W hSW => by obtain ⟨⟨s1, s2⟩, s3, s4⟩ := hSW; go_simp⟩) hS0 ?_
              refine takeH 16 78 (.pointer (some ⟨wr.heap.size, 4, none⟩)) rfl rfl (by kernel_rfl) (by kernel_rfl) (by kernel_rfl) (fun _ _ _ h => h) (Or.inl ⟨by rfl, fun W hSW => by obtain ⟨⟨s1, s2⟩, s3, s4⟩ := hSW; go_simp⟩) hS0 ?_
              simp only [Act.put, List.setIfInBounds_toArray, List.set_cons_zero, List.set_cons_succ]
              refine wpAnyH_ready (rs := [17]) (by kernel_rfl) (by simp) (AllReadyH.cons rfl (fun K hK => ?_) AllReadyH.nil)
              go_simp
              have hS1 := PSB.out
              refine hK.out _ _ hS1 (fun _ => ?_)
              clear hK K
              refine takeH 18 79 (.pointer (some ⟨wr.heap.size, 5, none⟩)) rfl rfl (by kernel_rfl) (by kernel_rfl) (by kernel_rfl) (fun _ _ _ h => h) (Or.inl ⟨by rfl, fun W hSW => by obtain ⟨⟨s1, s2⟩, s3, s4⟩ := hSW; go_simp⟩) hS1 ?_
              simp only [Act.put, List.setIfInBounds_toArray, List.set_cons_zero, List.set_cons_succ]
              refine wpAnyH_done (by kernel_rfl) ?_ _
              unfold thenLast
              clear hS0 hS1 PSA PSB
              simp only [List.getElem_toArray, List.getElem_cons_succ, List.getElem_cons_zero]
              go_simp
              have HR4 : Hid (∀ W, Kept Nil wr W → W.ownsRow w.heap.size 94 6 u8 k (flatS ws)) := fun W kW => ownsRow_kept HR3.out kW (fun i _ hx => hx)
              obtain ⟨i1, hj0, hy0, hy1, hy2⟩ := info_parts Tryz.infoState
              obtain ⟨ao8, c8, rfl⟩ := ownsRow_slice HR3.out
              go_wp2_with (at_builtin; refine wpList_append_own_at _ rfl _ _ 63 rfl w.heap.size 94 i1 _ 6 64 Tryz.underlying63 hj0 hy0 hy1 hy2 rfl (by decide) _ _ _ rfl (HR4.out _ ((((Kept.refl _ _).alloc _).alloc _).drew)) _ 1 1 (Sv.cells ⟨m.kind, qsa, qsn, qsc, qed, qsl, un, uo⟩).toList rfl rfl ?c1 ?c2 ?c3 ?c4 ?c5 ?_)
              case c1 => exact sv_news2 _ ⟨m.kind, qsa, qsn, qsc, qed, qsl, un, uo⟩ _ (by simp)
              case c2 => exact Sv.one _
              case c3 => unfold maxLen; omega
              case c4 => omega
              case c5 => simp; omega
              intro v' w7 hown' hgrow hnil hloc
              obtain ⟨ao', c', rfl⟩ := ownsRow_slice hown'
              have kg : Kept (fun i => (Value.slice ao8 k c8).ownBlock = some i) wr w7 := (((((Kept.refl (fun i => (Value.slice ao8 k c8).ownBlock = some i) wr).alloc _).alloc _).drew)).grown hgrow (fun j hj => Or.inl hj)
              have kg2 : Kept Nil w2 w7 := HK3.out.trans' kg (fun i hi hx => by have := HO3.out i hx; omega)
              have hno : ∀ i, lo ≤ i → i < hi → ¬ ((Value.slice ao8 k c8).ownBlock = some i) := fun i _ h2 hx => by have := HO3.out i hx; omega
              have FIN : Hid (w7.ownsRow w.heap.size 94 6 (.slice ao' (k + 1) c') (k + 1) (flatS (ws ++ [⟨m.kind, qsa, qsn, qsc, qed, qsl, un, uo⟩]))) := by
                show World.ownsRow _ _ _ _ _ _ _
                rw [flatS_append]
                simpa [flatS] using hown'
              have FO : Hid (∀ i, (Value.slice ao' (k + 1) c').ownBlock = some i → w2.heap.size ≤ i) := by
                intro i hi'
                rcases hloc with hl | hl
                · exact HO3.out i (hl ▸ hi')
                · rw [hl] at hi'; cases hi'; first | omega | (simp; omega)
              have FV : Hid (∀ i, (h : i < (ws ++ [(⟨m.kind, qsa, qsn, qsc, qed, qsl, un, uo⟩ : Sv)]).length) → (h' : i < (sorted M V).length) → SvAt w7 lo hi (ws ++ [(⟨m.kind, qsa, qsn, qsc, qed, qsl, un, uo⟩ : Sv)])[i] (sorted M V)[i]) := by
                intro i h1 h2
                by_cases hi' : i < ws.length
                · have e1 : (ws ++ [(⟨m.kind, qsa, qsn, qsc, qed, qsl, un, uo⟩ : Sv)])[i] = ws[i] := List.getElem_append_left _
                  rw [e1]
                  exact (HV3.out i hi' h2).kept kg hno (by omega)
                · have e : i = k := by simp at h1; omega
                  subst e
                  have e1 : (ws ++ [(⟨m.kind, qsa, qsn, qsc, qed, qsl, un, uo⟩ : Sv)])[i] = ⟨m.kind, qsa, qsn, qsc, qed, qsl, un, uo⟩ := by simp [← hwl]
                  rw [e1, HRES.out]
                  exact HSQ.out.kept kg hno (by omega)
              have FK := hid kg2
              clear kg kg2 hno hown' hgrow hnil hloc HR3 HR4 HO3 HV3 HK3 HSQ HRES
              go_wp2_with fail
              go_roundg (V.ord.length - (k + 1))
              case measure => omega
              case rel => exact ⟨k + 1, _, by simp, by omega, rfl, by simp [hwl], FIN, FO, FV, FK⟩
            · have hk5 : k = V.ord.length := by omega
              subst hk5
              have hnum := HLN.out
              obtain ⟨gn, cn, hnx, n1, n2, n3, n4, n5⟩ := row_get HS2.out.num (by omega)
              subst hnx
              have cs1 : wr.cell? ⟨gn, start, none⟩ = some (.int .i64 (V.num.getD start 0)) := (HK3.out.cell (p := ⟨gn, start, none⟩) n2 (fun hx => hx)).trans (by rw [n4 start (by omega)]; simp [intL, show start < V.num.length by omega])
              have eb : wr.cell? ⟨w.heap.size + 1, 1, none⟩ = some (.slice (some ⟨gn, 0, none⟩) V.num.length cn) := (HS2.out.new HK3.out).blk.cell 1
              have hit4 : ¬ ((V.ord.length : Int) < (V.ord.length : Int)) := by omega
              have hit5 : ¬ ((V.num.length : Int) ≤ (start : Int)) := by omega
              obtain ⟨ao8, c8, rfl⟩ := ownsRow_slice HR3.out
              have POST : Hid (∀ W, Kept Nil wr W → Kept Nil w W ∧ W.ownsRow w.heap.size 94 6 (.slice ao8 V.ord.length c8) V.ord.length (flatS ws) ∧ ∀ i, (h : i < ws.length) → (h' : i < (sorted M V).length) → SvAt W lo hi ws[i] (sorted M V)[i]) := fun W kW => ⟨(HK2.out.trans HK3.out).trans kW, ownsRow_kept HR3.out kW (fun i _ hx => hx), fun i h1 h2 => (HV3.out i h1 h2).kept kW (fun _ _ _ hx => hx) (by have := HK2.out.size; have := HK3.out.size; omega)⟩
              clear hnum n4 n5 HR3 HO3 HV3 HK3 HS2 HK2 HM HSV HOK HIN HLN
              go_wp2_with fail
              go_region
              go_wp2_with fail
              go_ret2
              obtain ⟨p1, p2, p3⟩ := POST.out _ ((Kept.refl Nil wr).drew)
              exact ⟨_, ws, rfl, p1, p2, hwl, p3⟩
end Go.Proofs.YtnbfddjaonlmaaaGreatDoor
