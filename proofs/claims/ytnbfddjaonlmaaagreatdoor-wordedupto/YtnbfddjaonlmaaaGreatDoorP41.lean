/- Arguments that are rows of numbers: how they are read, and that they read the same behind a call that keeps old memory. How the reader's mirror reads a pattern that is put together out of parts. Rows of letters: what a class with + or {n,} tells of a text of single bytes. A text of single bytes: its runes are its bytes. Atoms, brackets, signs of times; a whole pattern of single bytes. Words with bars between them: what the reader's mirror reads, and what its tries tell of a text of single bytes. -/
import Derived.Test.YtnbfddjaonlmaaaGreatDoorP40
import Derived.ChangeSlices
import Derived.ChangeSame
set_option linter.unusedVariables false
set_option maxRecDepth 100000
namespace Go.Proofs.YtnbfddjaonlmaaaGreatDoor
open Go.ChangeShapes Go.WideShapes Go.ChangeAt Go.RowKit

/-- a call that leaves old memory as it was: what the statement asks of it -/
theorem post_kept {H : Type} {enc : TypeId × Value → H} {P : Program} {f : Func} {s : ChangeSpec} {apart fresh handsOn again : Bool} {W W' : World} {args : Array Value} {v : Value} {ds gs : List (DataW H)} {before pa pv : List MemPlace}
    (hW : DataW.Whole enc P f.params.toList s.vars apart W args.toList ds gs before)
    (hres : ∀ (b : Nat) (sp : Nat → Bool) (hd : Bool), DataW.TrodAll enc P W' b sp hd f.resultTypes.toList (v.resultList f.resultTypes.size) (s.fn H (ds ++ gs)).results [])
    (hargs : ∀ sp : Nat → Bool, (∀ p ∈ before, sp p.block = true) → DataW.TrodAll enc P W' 0 sp true f.params.toList args.toList (s.fn H (ds ++ gs)).args pa)
    (hvars : ∀ sp : Nat → Bool, (∀ p ∈ before, sp p.block = true) → DataW.TrodVars enc P W' sp s.vars (s.fn H (ds ++ gs)).vars pv)
    (hps : before = pa ++ pv) (hk : Kept Nil W W')
    (hok : ∀ (j : Nat) (t : TypeId) (r : Value), f.resultTypes[j]? = some t → (v.resultList f.resultTypes.size)[j]? = some r → Value.okWide P W' .any 0 t r) :
    s.post enc P f apart fresh handsOn again W args v W' := by
  have hlt := hW.lt
  have hold : ∀ p ∈ before, (fun b => decide (b < W.heap.size)) p.block = true := fun p hp => by simpa using hlt p hp
  refine ⟨ds, gs, before, [], pa, pv, hW, hres _ _ _, hargs _ hold, hvars _ hold, World.keptBut_mono (fun p hp => ⟨hp, ?_⟩) ((hk.below (Nat.le_refl _) (fun _ _ h => h)).frame _), fun _ => ?_⟩
  · rw [hps, List.mem_append] at hp
    exact Or.inr hp
  · obtain ⟨_, _, _, _, _, hz, hn⟩ := hW
    refine ⟨hok, _, _, ([] ++ pa) ++ pv, ⟨[] ++ pa, pv, trodAll_append (hargs _ (fun _ _ => rfl)) (hres _ _ _), hvars _ (fun _ _ => rfl), rfl, ?_, ?_⟩, ?_⟩
    · intro b off hp
      have hp' : MemPlace.cell b off ∈ before := by rw [hps]; simpa using hp
      rw [hk.frozen (p := ⟨b, off, none⟩) (hlt _ hp') (fun h => h)]
      exact hz b off hp'
    · intro ha
      have := hn ha
      rw [hps] at this
      simpa using this
    · intro p hp _
      rw [hps]
      simpa using hp
theorem bulk_len {H : Type} : ∀ l : List Int, (lits (H := H) .i64 l).length ≤ Rows.uptoBulkAll (lits (H := H) .i64 l)
  | [] => Nat.le_refl _
  | x :: l => by
    have := bulk_len (H := H) l
    show (lits (H := H) .i64 l).length + 1 ≤ 1 + Rows.uptoBulkAll (lits (H := H) .i64 l)
    omega
theorem Tryz.cellsInt : Tryz.prog.cellsOf 3 = 1 := by kernel_rfl
/-- an argument of numbers -/
theorem open_raw {H : Type} {enc : TypeId × Value → H} {W : World} {v : Value} {d : DataW H} {p : List MemPlace} {base : Nat} (hv : Value.okWide Tryz.prog W .any base 22 v) (h : DataW.Trod enc Tryz.prog W 0 (fun _ => true) true 22 v d p) :
    ∃ zs, RawAt W v zs ∧ zs.length ≤ Rows.uptoBulk d ∧ ∀ W', Kept Nil W W' → ∀ sp : Nat → Bool, (∀ q ∈ p, sp q.block = true) → DataW.Trod enc Tryz.prog W' 0 sp true 22 v d p := by
  obtain ⟨a0, len0, cap0, rfl⟩ := okWide_slice Tryz.underlying22 hv
  obtain ⟨fuel, hf⟩ := h
  rcases open_ints Tryz.underlying22 Tryz.underlying3 Tryz.cellsInt hf with ⟨hcs, hx⟩ | ⟨a, len, cap, zs, hcs, hb, hl, hm, hz, hx, hcell, hwz⟩
  · simp [Value.cells] at hcs
    obtain ⟨rfl, rfl, rfl⟩ := hcs
    simp only [Prod.mk.injEq] at hx
    obtain ⟨rfl, rfl⟩ := hx
    exact ⟨[], Or.inl ⟨rfl, rfl⟩, Nat.zero_le _, fun W' _ sp _ => shut_slice_nil Tryz.underlying22⟩
  · simp [Value.cells] at hcs
    obtain ⟨rfl, rfl, rfl⟩ := hcs
    simp only [Prod.mk.injEq] at hx
    obtain ⟨rfl, rfl⟩ := hx
    simp only [if_true] at hz
    have hlen : (zs.take len0).length = len0 := by rw [List.length_take]; omega
    refine ⟨zs.take len0, Or.inr ⟨a, cap0, by rw [hlen], by rw [hlen]; exact hl, fun i hi => ?_, fun z hz' => ?_⟩, ?_, fun W' k sp hsp => ?_⟩
    · rw [hlen] at hi
      rw [hcell i (by omega)]
      simp [List.getD_eq_getElem?_getD, hi]
    · have := hwz z (List.mem_of_mem_take hz')
      simpa [Lit.wf, IntKind.min, IntKind.max, IntKind.signed, IntKind.bits] using this
    · have h1 := bulk_len (H := H) (zs.take len0)
      have h2 : (lits (H := H) .i64 (zs.take len0)).length = (zs.take len0).length := by unfold lits; rw [List.length_map]
      simp only [Rows.uptoBulk]
      omega
    · refine ⟨2, ?_⟩
      have hsz : zs.length = (if sp a.block then cap0 else len0) := by
        by_cases h0 : zs.length = 0
        · rw [h0]; split <;> omega
        · have : sp a.block = true := hsp (.cell a.block (a.off + 0)) (by unfold MemPlace.row; exact List.mem_map.2 ⟨0, List.mem_range.2 (by omega), rfl⟩)
          rw [this]
          simpa using hz
      exact shut_ints 0 Tryz.underlying22 Tryz.underlying3 Tryz.cellsInt (Nat.zero_le _) hl hm hsz (fun i hi => (k.cell (p := a.add i) (World.block_lt_of_cell? _ _ (hcell i hi)) (fun h => h)).trans (hcell i hi)) hwz
end Go.Proofs.YtnbfddjaonlmaaaGreatDoor
namespace Go.Proofs.YtnbfddjaonlmaaaGreatDoor

/-- st, n runes on -/
def RS.on (st : RS) (n : Nat) : RS := { st with next := st.next + n }
theorem RS.on_on (st : RS) (a b : Nat) : (st.on a).on b = st.on (a + b) := by unfold RS.on; simp [Nat.add_assoc]
theorem RS.on_zero (st : RS) : st.on 0 = st := rfl
theorem see_head {g : RG} {st : RS} {l : List Int} (h : g.rs.drop st.next = l) : seeOf g st = l.headD (-1) := by
  unfold seeOf
  rw [← h]
  simp [List.getD_eq_getElem?_getD, List.headD_eq_head?_getD, List.head?_drop]
theorem drop_on {g : RG} {st : RS} {u v : List Int} (h : g.rs.drop st.next = u ++ v) : g.rs.drop (st.on u.length).next = v := by
  show g.rs.drop (st.next + u.length) = v
  rw [← List.drop_drop, h]
  simp
theorem drop_len {g : RG} {st : RS} {u v : List Int} (h : g.rs.drop st.next = u ++ v) : u.length ≤ g.rs.length := by
  have := congrArg List.length h
  simp at this
  omega
/-- no sign of times -/
def NoRep (r : Int) : Prop := inSet lStar r = false ∧ inSet lPlus r = false ∧ inSet lQuery r = false ∧ inSet lOpenBrace r = false
/-- here a choice ends -/
def Stop (r : Int) : Prop := r = -1 ∨ r = 41
/-- here a row of pieces ends -/
def Stop2 (r : Int) : Prop := r = -1 ∨ r = 41 ∨ r = 124
theorem Stop.two {r : Int} (h : Stop r) : Stop2 r := h.elim Or.inl (fun h => Or.inr (Or.inl h))
theorem Stop2.noRep {r : Int} (h : Stop2 r) : NoRep r := by
  rcases h with rfl | rfl | rfl <;> exact ⟨rfl, rfl, rfl, rfl⟩
theorem Stop2.stop {r : Int} (h : Stop2 r) : r = -1 ∨ inSet lBarRound r = true := by
  rcases h with rfl | rfl | rfl
  · exact Or.inl rfl
  · exact Or.inr rfl
  · exact Or.inr rfl
theorem Stop.noBar {r : Int} (h : Stop r) : inSet lBar r = false := by
  rcases h with rfl | rfl <;> rfl
/-- u is read as the pieces ps, cs, whatever follows that is no sign of times -/
structure SeqOk (d : Nat) (u : List Int) (ps : List PT) (cs : List CT) : Prop where
  len : ps.length = cs.length
  few : ps.length ≤ u.length
  run : ∀ (g : RG) (st : RS) (rest : List Int) (k m : Nat) (acc : List PT) (acc' : List CT), d ≤ k → g.rs.drop st.next = u ++ rest → NoRep (rest.headD (-1)) →
    pSeqs g (pAlt g k) (m + ps.length) st acc = pSeqs g (pAlt g k) m (st.on u.length) (acc ++ ps) ∧ cSeqs g (pAlt g k) (cAlt g k) false (m + cs.length) st acc' = cSeqs g (pAlt g k) (cAlt g k) false m (st.on u.length) (acc' ++ cs)
theorem SeqOk.append {d : Nat} {u v : List Int} {ps qs : List PT} {cs ds : List CT} (h1 : SeqOk d u ps cs) (h2 : SeqOk d v qs ds) (hv : ∀ r, v.head? = some r → NoRep r) : SeqOk d (u ++ v) (ps ++ qs) (cs ++ ds) := by
  refine ⟨by simp [h1.len, h2.len], by have := h1.few; have := h2.few; simp; omega, fun g st rest k m acc acc' hk hd hr => ?_⟩
  rw [List.append_assoc] at hd
  have hr1 : NoRep ((v ++ rest).headD (-1)) := by
    cases v with
    | nil => exact hr
    | cons a v => exact hv a rfl
  have a1 := h1.run g st (v ++ rest) k (m + qs.length) acc acc' hk hd hr1
  have a2 := h1.run g st (v ++ rest) k (m + ds.length) acc acc' hk hd hr1
  have b := h2.run g (st.on u.length) rest k m (acc ++ ps) (acc' ++ cs) hk (drop_on hd) hr
  rw [List.length_append, List.length_append, List.length_append, show m + (ps.length + qs.length) = m + qs.length + ps.length by omega, show m + (cs.length + ds.length) = m + ds.length + cs.length by omega]
  exact ⟨by rw [a1.1, b.1, RS.on_on, List.append_assoc], by rw [a2.2, b.2, RS.on_on, List.append_assoc]⟩
theorem SeqOk.up {d e : Nat} {u : List Int} {ps : List PT} {cs : List CT} (h : SeqOk d u ps cs) (he : d ≤ e) : SeqOk e u ps cs := ⟨h.len, h.few, fun g st rest k m acc acc' hk => h.run g st rest k m acc acc' (by omega)⟩
/-- u is read as one atom -/
structure AtomOk (d : Nat) (u : List Int) (p : PT) (c : CT) : Prop where
  beg : ∃ r v, u = r :: v ∧ r ≠ -1 ∧ inSet lBarRound r = false
  run : ∀ (g : RG) (st : RS) (rest : List Int) (k : Nat), d ≤ k → g.rs.drop st.next = u ++ rest → pAtom g (pAlt g k) st = (st.on u.length, p) ∧ cAtom g (cAlt g k) false st = c
/-- v is read as a sign of times -/
def RepOk (v : List Int) (fp : PT → PT) (fc : CT → CT) : Prop := ∀ (g : RG) (st : RS) (rest : List Int), g.rs.drop st.next = v ++ rest → NoRep (rest.headD (-1)) → ∀ p c, pRepeated g p st = (st.on v.length, fp p) ∧ cRepeated g c st = fc c
theorem RepOk.none : RepOk [] id id := fun g st rest hd hr p c => by
  have hs := see_head (l := rest) hd
  unfold pRepeated cRepeated
  rw [hs]
  generalize rest.headD (-1) = r at hr
  obtain ⟨h1, h2, h3, h4⟩ := hr
  simp [h1, h2, h3, h4, RS.on_zero]
theorem AtomOk.item {d : Nat} {u v : List Int} {p : PT} {c : CT} {fp : PT → PT} {fc : CT → CT} (h : AtomOk d u p c) (hv : RepOk v fp fc) : SeqOk d (u ++ v) [fp p] [fc c] := by
  obtain ⟨r, t, hu, hr1, hr2⟩ := h.beg
  refine ⟨rfl, by rw [hu]; simp, fun g st rest k m acc acc' hk hd hr => ?_⟩
  rw [List.append_assoc] at hd
  have hs : seeOf g st = r := by rw [see_head hd, hu]; rfl
  obtain ⟨a1, a2⟩ := h.run g st (v ++ rest) k hk hd
  obtain ⟨b1, b2⟩ := hv g (st.on u.length) rest (drop_on hd) hr p c
  have hno : ¬ (seeOf g st = -1 ∨ inSet lBarRound (seeOf g st) = true) := by rw [hs, hr2]; simp [hr1]
  constructor
  · show pSeqs g (pAlt g k) (m + 1) st acc = _
    unfold pSeqs
    rw [if_neg hno, a1]
    simp only
    rw [b1, RS.on_on, List.length_append]
    cases m <;> rfl
  · show cSeqs g (pAlt g k) (cAlt g k) false (m + 1) st acc' = _
    unfold cSeqs
    rw [if_neg hno, a1, a2]
    simp only
    rw [b1, b2, RS.on_on, List.length_append]
    cases m <;> rfl
def seqP (ps : List PT) : PT := .node 2 ps 0 0
def seqC (cs : List CT) : CT := .node 3 [] false false 0 0 0 0 false cs
def altP (ps : List PT) : PT := .node 3 ps 0 0
def altC (cs : List CT) : CT := .node 4 [] false false 0 0 0 0 false cs
theorem pSeqs_stop {g : RG} {alt : RS → RS × PT} {m : Nat} {st : RS} {acc : List PT} (h : seeOf g st = -1 ∨ inSet lBarRound (seeOf g st) = true) : pSeqs g alt m st acc = (st, acc) := by
  cases m with
  | zero => rfl
  | succ m => unfold pSeqs; rw [if_pos h]
theorem SeqOk.whole {d : Nat} {u : List Int} {ps : List PT} {cs : List CT} (h : SeqOk d u ps cs) {g : RG} {st : RS} {rest : List Int} {k : Nat} (hk : d ≤ k) (hd : g.rs.drop st.next = u ++ rest) (hr : Stop2 (rest.headD (-1))) :
    pSeq g (pAlt g k) st = (st.on u.length, seqP ps) ∧ cSeq g (pAlt g k) (cAlt g k) false st = seqC cs := by
  have hl := drop_len hd
  have hf := h.few
  obtain ⟨m, hm⟩ : ∃ m, g.rs.length + 1 = m + ps.length := ⟨g.rs.length + 1 - ps.length, by omega⟩
  have a := h.run g st rest k m [] [] hk hd hr.noRep
  have hs : seeOf g (st.on u.length) = -1 ∨ inSet lBarRound (seeOf g (st.on u.length)) = true := by rw [see_head (drop_on hd)]; exact hr.stop
  unfold pSeq cSeq
  rw [hm]
  refine ⟨by rw [a.1, pSeqs_stop hs]; rfl, ?_⟩
  rw [h.len, a.2, cSeqs_end _ _ _ _ _ _ _ hs]
  rfl
/-- what stands behind the first of some choices -/
structure AltsOk (d : Nat) (u : List Int) (ps : List PT) (cs : List CT) : Prop where
  len : ps.length = cs.length
  few : ps.length ≤ u.length
  beg : ∀ r, u.head? = some r → r = 124
  run : ∀ (g : RG) (st : RS) (rest : List Int) (k m : Nat) (acc : List PT) (acc' : List CT), d ≤ k → g.rs.drop st.next = u ++ rest → Stop (rest.headD (-1)) →
    pAlts g (pAlt g k) (m + ps.length) st acc = pAlts g (pAlt g k) m (st.on u.length) (acc ++ ps) ∧ cAlts g (pAlt g k) (cAlt g k) false (m + cs.length) st acc' = cAlts g (pAlt g k) (cAlt g k) false m (st.on u.length) (acc' ++ cs)
theorem AltsOk.nil (d : Nat) : AltsOk d [] [] [] := ⟨rfl, Nat.le_refl _, (fun r h => by cases h), fun g st rest k m acc acc' _ _ _ => ⟨by simp [RS.on_zero], by simp [RS.on_zero]⟩⟩
theorem AltsOk.cons {d : Nat} {u v : List Int} {ps qs : List PT} {cs ds : List CT} (h1 : SeqOk d u ps cs) (h2 : AltsOk d v qs ds) : AltsOk d (124 :: (u ++ v)) (seqP ps :: qs) (seqC cs :: ds) := by
  refine ⟨by simp [h2.len], by have := h2.few; simp; omega, (fun r h => by cases h; rfl), fun g st rest k m acc acc' hk hd hr => ?_⟩
  have hd0 : g.rs.drop st.next = [124] ++ (u ++ (v ++ rest)) := by rw [hd]; simp
  have hs : seeOf g st = 124 := by rw [see_head hd0]; rfl
  have hd1 : g.rs.drop (st.on 1).next = u ++ (v ++ rest) := drop_on hd0
  have hst : Stop2 ((v ++ rest).headD (-1)) := by
    cases v with
    | nil => exact hr.two
    | cons a v => have := h2.beg a rfl; subst this; exact Or.inr (Or.inr rfl)
  obtain ⟨a1, a2⟩ := h1.whole hk hd1 hst
  have hd2 := drop_on hd1
  have b1 := h2.run g ((st.on 1).on u.length) rest k m (acc ++ [seqP ps]) (acc' ++ [seqC cs]) hk hd2 hr
  have e1 : (pSeq g (pAlt g k) { st with next := st.next + 1 }) = ((st.on 1).on u.length, seqP ps) := a1
  have e2 : cSeq g (pAlt g k) (cAlt g k) false { st with next := st.next + 1 } = seqC cs := a2
  have hb : inSet lBar (seeOf g st) = true := by rw [hs]; rfl
  have hon : (st.on 1).on u.length = st.on (1 + u.length) := RS.on_on _ _ _
  have hfin : ((st.on 1).on u.length).on v.length = st.on (124 :: (u ++ v)).length := by rw [RS.on_on, RS.on_on]; congr 1; simp; omega
  constructor
  · show pAlts g (pAlt g k) (m + qs.length + 1) st acc = _
    have step : pAlts g (pAlt g k) (m + qs.length + 1) st acc = pAlts g (pAlt g k) (m + qs.length) (pSeq g (pAlt g k) { st with next := st.next + 1 }).1 (acc ++ [(pSeq g (pAlt g k) { st with next := st.next + 1 }).2]) := by
      show (if inSet lBar (seeOf g st) then _ else _) = _
      rw [if_pos hb]
    rw [step, e1]
    simp only
    rw [b1.1, hfin, List.append_assoc]
    rfl
  · show cAlts g (pAlt g k) (cAlt g k) false (m + ds.length + 1) st acc' = _
    have step : cAlts g (pAlt g k) (cAlt g k) false (m + ds.length + 1) st acc' = cAlts g (pAlt g k) (cAlt g k) false (m + ds.length) (pSeq g (pAlt g k) { st with next := st.next + 1 }).1 (acc' ++ [cSeq g (pAlt g k) (cAlt g k) false { st with next := st.next + 1 }]) := by
      show (if inSet lBar (seeOf g st) then _ else _) = _
      rw [if_pos hb]
    rw [step, e1, e2]
    simp only
    rw [b1.2, hfin, List.append_assoc]
    rfl
theorem SeqOk.alts {d : Nat} {u v : List Int} {ps qs : List PT} {cs ds : List CT} (h1 : SeqOk d u ps cs) (h2 : AltsOk d v qs ds) : AltsOk d (124 :: (u ++ v)) (seqP ps :: qs) (seqC cs :: ds) := AltsOk.cons h1 h2
/-- u is read as a choice -/
def ChOk (d : Nat) (u : List Int) (p : PT) (c : CT) : Prop := ∀ (g : RG) (st : RS) (rest : List Int) (k : Nat), d ≤ k → g.rs.drop st.next = u ++ rest → Stop (rest.headD (-1)) → pAlt g (k + 1) st = (st.on u.length, p) ∧ cAlt g (k + 1) false st = c
theorem SeqOk.alt {d : Nat} {u v : List Int} {ps qs : List PT} {cs ds : List CT} (h1 : SeqOk d u ps cs) (h2 : AltsOk d v qs ds) : ChOk d (u ++ v) (altP (seqP ps :: qs)) (altC (seqC cs :: ds)) := fun g st rest k hk hd hr => by
  rw [List.append_assoc] at hd
  have hst : Stop2 ((v ++ rest).headD (-1)) := by
    cases v with
    | nil => exact hr.two
    | cons a v => have := h2.beg a rfl; subst this; exact Or.inr (Or.inr rfl)
  obtain ⟨a1, a2⟩ := h1.whole hk hd hst
  have hd2 := drop_on hd
  have hl := drop_len hd2
  have hf := h2.few
  obtain ⟨m, hm⟩ : ∃ m, g.rs.length + 1 = m + qs.length := ⟨g.rs.length + 1 - qs.length, by omega⟩
  have b := h2.run g (st.on u.length) rest k m [seqP ps] [seqC cs] hk hd2 hr
  have hend : inSet lBar (seeOf g ((st.on u.length).on v.length)) = false := by rw [see_head (drop_on hd2)]; exact hr.noBar
  constructor
  · show ((pAlts g (pAlt g k) (g.rs.length + 1) (pSeq g (pAlt g k) st).1 [(pSeq g (pAlt g k) st).2]).1, PT.node 3 (pAlts g (pAlt g k) (g.rs.length + 1) (pSeq g (pAlt g k) st).1 [(pSeq g (pAlt g k) st).2]).2 0 0) = _
    rw [a1, hm]
    simp only
    rw [b.1]
    have e : pAlts g (pAlt g k) m ((st.on u.length).on v.length) ([seqP ps] ++ qs) = ((st.on u.length).on v.length, [seqP ps] ++ qs) := by
      cases m with
      | zero => rfl
      | succ m => unfold pAlts; rw [if_neg (by rw [hend]; simp)]
    rw [e, RS.on_on, List.length_append]
    rfl
  · show CT.node 4 [] false false 0 0 0 0 false (cAlts g (pAlt g k) (cAlt g k) false (g.rs.length + 1) (pSeq g (pAlt g k) st).1 [cSeq g (pAlt g k) (cAlt g k) false st]) = _
    rw [a1, a2, hm, h2.len]
    simp only
    rw [b.2, cAlts_end _ _ _ _ _ _ _ hend]
    rfl

/-! ## a leaf, as often as may be -/
variable {x : TX} {s : ByteArray} {sp : Spans} {fo nt : Bool}
/-! ## the rows of a text -/

def Asc (s : ByteArray) : Prop := ∀ b ∈ s.data.toList, b.toNat < 128
theorem Asc.get {s : ByteArray} (h : Asc s) {p : Nat} (hp : p < s.size) : (s.get! p).toNat < 128 := by
  have e : s.get! p = s.data[p]'hp := by
    show s.data[p]! = _
    exact getElem!_pos s.data p hp
  rw [e]
  exact h _ (by rw [← Array.getElem_toList]; exact List.getElem_mem _)
theorem Asc.decode {s : ByteArray} (h : Asc s) {p : Nat} (hp : p < s.size) : Utf8.decode s p = ((s.get! p).toNat, 1) := (decode_wide s p hp).2.2.2.2.1 (h.get hp)
/-! ## the patterns of Rows -/
set_option maxRecDepth 100000

theorem AtomOk.plain {d : Nat} {c : Int} (h1 : c ≠ -1) (h2 : inSet lBarRound c = false) (h3 : inSet lOpenRound c = false) (h4 : inSet lOpenSquare c = false) (h5 : inSet lBack c = false) (h6 : inSet lSingles c = false) (h7 : inSet lNotPlain c = false) : AtomOk d [c] single (cLeaf [(c, c)] false false) :=
  ⟨⟨c, [], rfl, h1, h2⟩, fun g st rest k hk hd => by
    have hs : seeOf g st = c := by rw [see_head hd]; rfl
    unfold pAtom cAtom needOtherSt
    rw [hs, h3, h4, h5, h6, h7]
    simp [h1]
    rfl⟩
theorem AtomOk.edge {d : Nat} : AtomOk d [92, 98] single (cEdge 2) :=
  ⟨⟨92, [98], rfl, by decide, rfl⟩, fun g st rest k hk hd => by
    have hs : seeOf g st = 92 := by rw [see_head hd]; rfl
    have hd1 : g.rs.drop st.next = [92] ++ (98 :: rest) := hd
    have hs1 : seeOf g { st with next := st.next + 1 } = 98 := see_head (st := st.on 1) (drop_on hd1)
    unfold pAtom cAtom needSt cEscape
    rw [hs, hs1]
    constructor
    · rw [if_neg (by decide), if_neg (by decide), if_pos (by decide), if_pos (by decide)]
      simp [RS.on]
    · rw [if_neg (by decide), if_neg (by decide), if_pos (by decide), if_pos (by decide)]
      rfl⟩
theorem AtomOk.dot {d : Nat} : AtomOk d [46] single (cLeaf [(10, 10)] false true) :=
  ⟨⟨46, [], rfl, by decide, rfl⟩, fun g st rest k hk hd => by
    have hs : seeOf g st = 46 := by rw [see_head hd]; rfl
    unfold pAtom cAtom cSingle
    rw [hs]
    constructor
    · rw [if_neg (by decide), if_neg (by decide), if_neg (by decide), if_pos (by decide)]
      rfl
    · rw [if_neg (by decide), if_neg (by decide), if_neg (by decide), if_pos (by decide), if_pos (by decide)]⟩
def brP (p : PT) : PT := .node 1 [p] 0 0
def brC (c : CT) : CT := .node 2 [] false false 0 0 0 0 false [c]
/-- (?: .. ) -/
theorem ChOk.bracket {d : Nat} {u : List Int} {p : PT} {c : CT} (h : ChOk d u p c) : AtomOk (d + 1) ([40, 63, 58] ++ u ++ [41]) (brP p) (brC c) :=
  ⟨⟨40, [63, 58] ++ u ++ [41], rfl, by decide, rfl⟩, fun g st rest k hk hd => by
    obtain ⟨k, rfl⟩ : ∃ k', k = k' + 1 := ⟨k - 1, by omega⟩
    have hd0 : g.rs.drop st.next = [40] ++ ([63, 58] ++ u ++ [41] ++ rest) := by rw [hd]; simp
    have hd1 : g.rs.drop (st.on 1).next = [63] ++ ([58] ++ u ++ [41] ++ rest) := by have := drop_on (u := [40]) hd0; simpa using this
    have hd2 : g.rs.drop ((st.on 1).on 1).next = [58] ++ (u ++ [41] ++ rest) := by have := drop_on (u := [63]) hd1; simpa using this
    have hd3 : g.rs.drop (((st.on 1).on 1).on 1).next = u ++ ([41] ++ rest) := by have := drop_on (u := [58]) hd2; simpa using this
    have hs0 : seeOf g st = 40 := by rw [see_head hd0]; rfl
    have hs1 : seeOf g (st.on 1) = 63 := by rw [see_head hd1]; rfl
    have hs2 : seeOf g ((st.on 1).on 1) = 58 := by rw [see_head hd2]; rfl
    obtain ⟨a1, a2⟩ := h g (((st.on 1).on 1).on 1) ([41] ++ rest) k (by omega) hd3 (Or.inr rfl)
    have hd4 := drop_on hd3
    have hs4 : seeOf g ((((st.on 1).on 1).on 1).on u.length) = 41 := by rw [see_head hd4]; rfl
    have hh : pHead g (st.on 1) = ((st.on 1).on 1).on 1 := by
      unfold pHead
      rw [hs1, if_neg (by decide)]
      show (if inSet lLess (seeOf g ((st.on 1).on 1)) then _ else needSt g lColon (takeOf g lI ((st.on 1).on 1))) = _
      rw [hs2, if_neg (by decide)]
      unfold takeOf
      rw [hs2, if_neg (by decide)]
      unfold needSt
      rw [hs2, if_pos (by decide)]
      rfl
    constructor
    · unfold pAtom
      rw [hs0, if_pos (by decide)]
      show pBracket g (pAlt g (k + 1)) (st.on 1) = _
      unfold pBracket
      rw [hh, a1]
      simp only
      unfold needSt
      rw [hs4, if_pos (by decide)]
      have e : ({ (((st.on 1).on 1).on 1).on u.length with next := ((((st.on 1).on 1).on 1).on u.length).next + 1 } : RS) = ((((st.on 1).on 1).on 1).on u.length).on 1 := rfl
      have e2 : ((((st.on 1).on 1).on 1).on u.length).on 1 = st.on ([40, 63, 58] ++ u ++ [41]).length := by
        rw [RS.on_on, RS.on_on, RS.on_on, RS.on_on]
        congr 1
        simp
        omega
      rw [e, e2]
      rfl
    · unfold cAtom
      rw [hs0, if_pos (by decide)]
      show cBracket g (cAlt g (k + 1)) false (st.on 1) = _
      unfold cBracket
      rw [hs1, if_neg (by decide)]
      have e : seeOf g { st.on 1 with next := (st.on 1).next + 1 } = 58 := hs2
      rw [e, if_neg (by decide), hh]
      have e3 : (inSet lI 58 || false) = false := rfl
      rw [e3, a2]
      rfl⟩

/-! ## a whole pattern -/
def bytesI (p : ByteArray) : List Int := p.data.toList.map fun b => (b.toNat : Int)
theorem scan_asc {p : ByteArray} (h : Asc p) : ∀ m i, p.size - i ≤ m → (scanFrom p m i).map (·.2) = (bytesI p).drop i ∧ ∀ q ∈ scanFrom p m i, q.2 < 128
  | 0, i, hm => by
    refine ⟨?_, fun q hq => by cases hq⟩
    rw [List.drop_eq_nil_of_le (by unfold bytesI; simp; omega)]
    rfl
  | m + 1, i, hm => by
    by_cases hi : i < p.size
    · have hd := h.decode hi
      have hg := h.get hi
      obtain ⟨a, b⟩ := scan_asc h m (i + 1) (by omega)
      have e : scanFrom p (m + 1) i = (i, ((p.get! i).toNat : Int)) :: scanFrom p m (i + 1) := by
        show (if i < p.size then _ else _) = _
        rw [if_pos hi, hd]
      have hl : i < (bytesI p).length := by unfold bytesI; simpa using hi
      have e3 : p.get! i = p.data[i] := by
        show p.data[i]! = _
        exact getElem!_pos p.data i hi
      have e4 : (bytesI p)[i]? = some ((p.get! i).toNat : Int) := by
        unfold bytesI
        rw [List.getElem?_map, List.getElem?_eq_getElem (show i < p.data.toList.length by simpa using hi), e3, Array.getElem_toList]
        rfl
      have e2 : (bytesI p)[i] = ((p.get! i).toNat : Int) := (List.getElem?_eq_some_iff.1 e4).2
      rw [e]
      refine ⟨?_, fun q hq => ?_⟩
      · rw [List.map_cons, a, List.drop_eq_getElem_cons hl, e2]
      · rcases List.mem_cons.1 hq with rfl | hq
        · show ((p.get! i).toNat : Int) < 128; omega
        · exact b q hq
    · have e : scanFrom p (m + 1) i = [] := by
        show (if i < p.size then _ else _) = _
        rw [if_neg hi]
      rw [e, List.drop_eq_nil_of_le (by unfold bytesI; simp; omega)]
      exact ⟨rfl, fun q hq => by cases hq⟩
theorem flt_asc {p : ByteArray} : ∀ l : List (Nat × Int), (∀ q ∈ l, q.2 < 128) → l.foldl (fun F q => if isBad p q then F.note 2 q.1 else F) flt0 = flt0
  | [], _ => rfl
  | q :: l, h => by
    have hq := h q (List.mem_cons_self)
    have e : isBad p q = false := by
      unfold isBad
      have : (q.2 == 65533) = false := by simp; omega
      rw [this]; rfl
    rw [List.foldl_cons, e]
    exact flt_asc l (fun r hr => h r (List.mem_cons_of_mem _ hr))
/-- a pattern that is put together so has no fault and no group -/
theorem pat_whole {p : ByteArray} {d : Nat} {pw : PT} {cw : CT} (hA : Asc p) (hsz : p.size ≤ 300) (h : ChOk d (bytesI p) pw cw) (hd : d ≤ p.size) (hs : pw.size ≤ 1000) : patE p = 0 ∧ patG p = 0 ∧ patC p = cw := by
  obtain ⟨s1, s2⟩ := scan_asc hA (p.size + 1) 0 (by omega)
  have hlen : (bytesI p).length = p.size := by unfold bytesI; simp
  have hrs : (rgOf p).rs = bytesI p := s1
  have hf : (st0 p).flt = flt0 := flt_asc _ s2
  have hl : (rgOf p).rs.length = p.size := by rw [hrs, hlen]
  have hdr : (rgOf p).rs.drop (st0 p).next = bytesI p ++ [] := by rw [hrs]; show (bytesI p).drop 0 = _; simp
  obtain ⟨a1, a2⟩ := h (rgOf p) (st0 p) [] ((rgOf p).rs.length) (by omega) hdr (Or.inl rfl)
  have hend : seeOf (rgOf p) ((st0 p).on (bytesI p).length) = -1 := by rw [see_head (drop_on hdr)]; rfl
  have hw : pWhole (rgOf p) (st0 p) = ((st0 p).on (bytesI p).length, pw) := by
    unfold pWhole
    rw [a1, if_pos hend]
  refine ⟨?_, ?_, ?_⟩
  · unfold patE
    rw [if_neg (by omega)]
    unfold finFlt
    rw [hw]
    simp only
    rw [if_neg (by omega)]
    show (pick (st0 p).flt).1 = 0
    rw [hf]
    rfl
  · unfold patG
    rw [hw]
    rfl
  · exact a2

def toI (l : List UInt8) : List Int := l.map fun b => (b.toNat : Int)
/-! ## words that stand in a text -/
/-! ## from left to right -/
end Go.Proofs.YtnbfddjaonlmaaaGreatDoor
