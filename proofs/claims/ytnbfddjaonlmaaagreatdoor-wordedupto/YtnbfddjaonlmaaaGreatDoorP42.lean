/- Signs of times, a class, a group: what the reader's mirror reads. What patterns that are put together match, in terms of one another. -/
import Derived.Test.YtnbfddjaonlmaaaGreatDoorP41
set_option linter.unusedVariables false
set_option maxRecDepth 100000
namespace Go.Proofs.YtnbfddjaonlmaaaGreatDoor
set_option maxRecDepth 100000

theorem see_on {g : RG} {st : RS} {u v : List Int} (h : g.rs.drop st.next = u ++ v) : seeOf g (st.on u.length) = v.headD (-1) := see_head (drop_on h)
/-! ## a class of two letters -/
theorem item_pl {g : RG} {st : RS} {c : Int} (hs : seeOf g st = c) (h1 : inSet lBack c = false) (h2 : inSet lNotOne c = false) (h3 : c ≠ -1) (h4 : inSet lDash (seeOf g (st.on 1)) = false) : pItem g st = st.on 1 ∧ cItem g st = [(c, c)] := by
  have e1 : takeOf g lBack st = st := by unfold takeOf; rw [hs, if_neg (by rw [h1]; simp)]
  have e2 : pOne' g st = (st.on 1, c) := by
    unfold pOne'
    rw [e1, hs, h1]
    unfold pOne needOtherSt
    rw [hs]
    simp [h2, h3]
    rfl
  constructor
  · unfold pItem
    rw [hs, h1, if_neg (by simp), e2]
    unfold pUpto
    simp only
    rw [if_neg (by rw [h4]; simp)]
  · unfold cItem
    rw [hs, h1, if_neg (by simp), e2]
    simp only
    rw [if_neg (by rw [h4]; simp)]
theorem AtomOk.ab {d : Nat} : AtomOk d [91, 97, 98, 93] single (cLeaf [(97, 97), (98, 98)] false false) :=
  ⟨⟨91, [97, 98, 93], rfl, by decide, rfl⟩, fun g st rest k hk hd => by
    have s0 : seeOf g st = 91 := by rw [see_head hd]; rfl
    have s1 : seeOf g (st.on 1) = 97 := see_on (u := [91]) (v := [97, 98, 93] ++ rest) hd
    have s2 : seeOf g (st.on 2) = 98 := see_on (u := [91, 97]) (v := [98, 93] ++ rest) hd
    have s3 : seeOf g (st.on 3) = 93 := see_on (u := [91, 97, 98]) (v := [93] ++ rest) hd
    have hl : 4 ≤ g.rs.length := drop_len hd
    obtain ⟨n, hn⟩ : ∃ n, g.rs.length + 1 = n + 2 := ⟨g.rs.length - 1, by omega⟩
    obtain ⟨a1, a2⟩ := item_pl (g := g) (st := st.on 1) s1 rfl rfl (by decide) (by rw [RS.on_on, s2]; rfl)
    obtain ⟨b1, b2⟩ := item_pl (g := g) (st := st.on 2) s2 rfl rfl (by decide) (by rw [RS.on_on, s3]; rfl)
    rw [RS.on_on] at a1 b1
    have t1 : takeOf g lCaret (st.on 1) = st.on 1 := by unfold takeOf; rw [s1]; rfl
    have p1 : pItems g (n + 2) (st.on 2) = st.on 3 := by
      show (if seeOf g (st.on 2) = -1 ∨ inSet lSquare (seeOf g (st.on 2)) = true then st.on 2 else pItems g (n + 1) (pItem g (st.on 2))) = _
      rw [s2, if_neg (by decide), b1]
      show (if seeOf g (st.on 3) = -1 ∨ inSet lSquare (seeOf g (st.on 3)) = true then st.on 3 else pItems g n (pItem g (st.on 3))) = _
      rw [s3, if_pos (by decide)]
    have c1 : cItems g (n + 2) (st.on 2) [(97, 97)] = [(97, 97), (98, 98)] := by
      show (if seeOf g (st.on 2) = -1 ∨ inSet lSquare (seeOf g (st.on 2)) = true then [(97, 97)] else cItems g (n + 1) (pItem g (st.on 2)) ([(97, 97)] ++ cItem g (st.on 2))) = _
      rw [s2, if_neg (by decide), b1, b2, cItems_end _ _ _ _ (by rw [s3]; exact Or.inr rfl)]
      rfl
    constructor
    · unfold pAtom
      rw [s0, if_neg (by decide), if_pos (by decide)]
      show (pClass g (st.on 1), single) = _
      unfold pClass
      rw [t1, a1, hn, p1]
      unfold needSt
      rw [s3, if_pos (by decide)]
      rfl
    · unfold cAtom
      rw [s0, if_neg (by decide), if_pos (by decide)]
      show cClass g false (st.on 1) = _
      unfold cClass
      rw [t1, a1, a2, hn, c1, s1]
      rfl⟩
/-! ## signs of times -/
def tmP (lo hi : Int) (p : PT) : PT := .node 4 [p] lo hi
theorem tkq_no {g : RG} {st : RS} (h : NoRep (seeOf g st)) : takeOf g lQuery st = st := by unfold takeOf; rw [h.2.2.1]; rfl
theorem tkq_yes {g : RG} {st : RS} (h : seeOf g st = 63) : takeOf g lQuery st = st.on 1 := by unfold takeOf; rw [h, if_pos (by decide)]; rfl
/-- the lazy sign behind -/
def lzL (lz : Bool) : List Int := if lz then [63] else []
theorem lazy_rd {g : RG} {st : RS} {rest : List Int} (lz : Bool) (hd : g.rs.drop st.next = lzL lz ++ rest) (hr : NoRep (rest.headD (-1))) : takeOf g lQuery st = st.on (lzL lz).length ∧ inSet lQuery (seeOf g st) = lz := by
  cases lz with
  | true =>
    have hs : seeOf g st = 63 := by rw [see_head hd]; rfl
    exact ⟨tkq_yes hs, by rw [hs]; rfl⟩
  | false =>
    have hs : seeOf g st = rest.headD (-1) := by rw [see_head hd]; rfl
    rw [← hs] at hr
    exact ⟨tkq_no hr, hr.2.2.1⟩
theorem RepOk.star (lz : Bool) : RepOk (42 :: lzL lz) (tmP 0 (-1)) (fun c => cTimes c 0 (-1) lz) := fun g st rest hd hr p c => by
  have hd0 : g.rs.drop st.next = [42] ++ (lzL lz ++ rest) := hd
  have hs : seeOf g st = 42 := by rw [see_head hd0]; rfl
  obtain ⟨a, b⟩ := lazy_rd (st := st.on 1) lz (drop_on hd0) hr
  rw [RS.on_on] at a
  constructor
  · unfold pRepeated
    rw [hs, if_pos (by decide)]
    show (takeOf g lQuery (st.on 1), _) = _
    rw [a, List.length_cons, Nat.add_comm]
    rfl
  · unfold cRepeated
    rw [hs, if_pos (by decide)]
    show cTimes c 0 (-1) (inSet lQuery (seeOf g (st.on 1))) = _
    rw [b]
theorem RepOk.plus (lz : Bool) : RepOk (43 :: lzL lz) (tmP 1 (-1)) (fun c => cTimes c 1 (-1) lz) := fun g st rest hd hr p c => by
  have hd0 : g.rs.drop st.next = [43] ++ (lzL lz ++ rest) := hd
  have hs : seeOf g st = 43 := by rw [see_head hd0]; rfl
  obtain ⟨a, b⟩ := lazy_rd (st := st.on 1) lz (drop_on hd0) hr
  rw [RS.on_on] at a
  constructor
  · unfold pRepeated
    rw [hs, if_neg (by decide), if_pos (by decide)]
    show (takeOf g lQuery (st.on 1), _) = _
    rw [a, List.length_cons, Nat.add_comm]
    rfl
  · unfold cRepeated
    rw [hs, if_neg (by decide), if_pos (by decide)]
    show cTimes c 1 (-1) (inSet lQuery (seeOf g (st.on 1))) = _
    rw [b]
theorem RepOk.query (lz : Bool) : RepOk (63 :: lzL lz) (tmP 0 1) (fun c => cTimes c 0 1 lz) := fun g st rest hd hr p c => by
  have hd0 : g.rs.drop st.next = [63] ++ (lzL lz ++ rest) := hd
  have hs : seeOf g st = 63 := by rw [see_head hd0]; rfl
  obtain ⟨a, b⟩ := lazy_rd (st := st.on 1) lz (drop_on hd0) hr
  rw [RS.on_on] at a
  constructor
  · unfold pRepeated
    rw [hs, if_neg (by decide), if_neg (by decide), if_pos (by decide)]
    show (takeOf g lQuery (st.on 1), _) = _
    rw [a, List.length_cons, Nat.add_comm]
    rfl
  · unfold cRepeated
    rw [hs, if_neg (by decide), if_neg (by decide), if_pos (by decide)]
    show cTimes c 0 1 (inSet lQuery (seeOf g (st.on 1))) = _
    rw [b]
theorem num_one {g : RG} {st : RS} {a : Int} (hs : seeOf g st = a) (h : inSet lDigits a = true) (hn : inSet lDigits (seeOf g (st.on 1)) = false) : pNumber g st = (st.on 1, a - 48) := by
  have e : pDigit g st = (st.on 1, a - 48) := by unfold pDigit; rw [hs, if_pos h]; rfl
  unfold pNumber
  rw [e]
  simp only
  rw [if_neg (by rw [hn]; simp)]
/-- what stands in braces is read as these bounds -/
def BraceOk (v : List Int) (lo hi : Int) : Prop := ∀ (g : RG) (st : RS) (rest : List Int), g.rs.drop st.next = v ++ rest → pBounds g st = (st.on v.length, lo, hi)
theorem BraceOk.one {a : Int} (ha : inSet lDigits a = true) : BraceOk [a, 125] (a - 48) (a - 48) := fun g st rest hd => by
  have s0 : seeOf g st = a := by rw [see_head hd]; rfl
  have s1 : seeOf g (st.on 1) = 125 := see_on (u := [a]) (v := [125] ++ rest) hd
  have e := num_one s0 ha (by rw [s1]; rfl)
  unfold pBounds
  rw [e]
  simp only
  rw [s1, if_neg (by decide)]
  unfold needSt
  rw [s1, if_pos (by decide)]
  rfl
theorem BraceOk.open {a : Int} (ha : inSet lDigits a = true) : BraceOk [a, 44, 125] (a - 48) (-1) := fun g st rest hd => by
  have s0 : seeOf g st = a := by rw [see_head hd]; rfl
  have s1 : seeOf g (st.on 1) = 44 := see_on (u := [a]) (v := [44, 125] ++ rest) hd
  have s2 : seeOf g (st.on 2) = 125 := see_on (u := [a, 44]) (v := [125] ++ rest) hd
  have e := num_one s0 ha (by rw [s1]; rfl)
  have e2 : pHigh g { st.on 1 with next := (st.on 1).next + 1 } = (st.on 2, -1) := by
    show pHigh g (st.on 2) = _
    unfold pHigh
    rw [s2, if_pos (by decide)]
  unfold pBounds
  rw [e]
  simp only
  rw [s1, if_pos (by decide), e2]
  simp only
  unfold needSt
  rw [s2, if_pos (by decide)]
  rfl
theorem BraceOk.two {a b : Int} (ha : inSet lDigits a = true) (hb : inSet lDigits b = true) : BraceOk [a, 44, b, 125] (a - 48) (b - 48) := fun g st rest hd => by
  have s0 : seeOf g st = a := by rw [see_head hd]; rfl
  have s1 : seeOf g (st.on 1) = 44 := see_on (u := [a]) (v := [44, b, 125] ++ rest) hd
  have s2 : seeOf g (st.on 2) = b := see_on (u := [a, 44]) (v := [b, 125] ++ rest) hd
  have s3 : seeOf g (st.on 3) = 125 := see_on (u := [a, 44, b]) (v := [125] ++ rest) hd
  have e := num_one s0 ha (by rw [s1]; rfl)
  have hb2 : inSet lBrace b = false := by
    have := inSet_digits hb
    have h0 : (lBrace : List UInt8) = [125] := rfl
    rw [h0]
    simp [inSet]
    omega
  have e2 : pHigh g { st.on 1 with next := (st.on 1).next + 1 } = (st.on 3, b - 48) := by
    show pHigh g (st.on 2) = _
    unfold pHigh
    rw [s2, hb2, if_neg (by simp), num_one s2 hb (by rw [RS.on_on, s3]; rfl), RS.on_on]
  unfold pBounds
  rw [e]
  simp only
  rw [s1, if_pos (by decide), e2]
  simp only
  unfold needSt
  rw [s3, if_pos (by decide)]
  rfl
theorem BraceOk.rep {v : List Int} {lo hi : Int} (h : BraceOk v lo hi) (h1 : ¬ (lo > 20 ∨ hi > 20 ∨ (hi ≠ -1 ∧ hi < lo))) (lz : Bool) : RepOk (123 :: (v ++ lzL lz)) (tmP lo hi) (fun c => cTimes c lo hi lz) := fun g st rest hd hr p c => by
  have hd0 : g.rs.drop st.next = [123] ++ (v ++ (lzL lz ++ rest)) := by rw [hd]; simp
  have hs : seeOf g st = 123 := by rw [see_head hd0]; rfl
  have hd1 : g.rs.drop (st.on 1).next = v ++ (lzL lz ++ rest) := drop_on hd0
  have hb := h g (st.on 1) _ hd1
  obtain ⟨a, b⟩ := lazy_rd (st := (st.on 1).on v.length) lz (drop_on hd1) hr
  constructor
  · unfold pRepeated
    rw [hs, if_neg (by decide), if_neg (by decide), if_neg (by decide), if_pos (by decide)]
    show (let x := pBounds g (st.on 1); (takeOf g lQuery (if x.2.1 > 20 ∨ x.2.2 > 20 ∨ (x.2.2 ≠ -1 ∧ x.2.2 < x.2.1) then x.1.note 4 (placeOf g st) else x.1), PT.node 4 [p] x.2.1 x.2.2)) = _
    rw [hb]
    simp only
    rw [if_neg h1, a, RS.on_on, RS.on_on]
    have e : (123 :: (v ++ lzL lz)).length = 1 + (v.length + (lzL lz).length) := by simp; omega
    rw [e]
    rfl
  · unfold cRepeated
    rw [hs, if_neg (by decide), if_neg (by decide), if_neg (by decide), if_pos (by decide)]
    show cTimes c (pBounds g (st.on 1)).2.1 (pBounds g (st.on 1)).2.2 (inSet lQuery (seeOf g (pBounds g (st.on 1)).1)) = _
    rw [hb]
    simp only
    rw [b]
/-! ## a whole pattern in a group -/
def grC (c : CT) : CT := .node 2 [] false false 0 1 0 0 false [c]
theorem pat_group {p : ByteArray} {d : Nat} {u : List Int} {pw : PT} {cw : CT} (hA : Asc p) (hsz : p.size ≤ 300) (hp : bytesI p = 40 :: (u ++ [41])) (hu : ∃ r v, u = r :: v ∧ r ≠ 63) (h : ChOk d u pw cw) (hd : d + 1 ≤ p.size) (hs : PT.size (altP [seqP [brP pw]]) ≤ 1000) : patE p = 0 ∧ patG p = 1 ∧ patC p = altC [seqC [grC cw]] := by
  obtain ⟨s1, s2⟩ := scan_asc hA (p.size + 1) 0 (by omega)
  have hlen : (bytesI p).length = p.size := by unfold bytesI; simp
  have hrs : (rgOf p).rs = bytesI p := s1
  have hf : (st0 p).flt = flt0 := flt_asc _ s2
  have hl : (rgOf p).rs.length = p.size := by rw [hrs, hlen]
  generalize hg : rgOf p = g at *
  have hdr : g.rs.drop (st0 p).next = 40 :: (u ++ [41]) := by rw [hrs, hp]; rfl
  have hg0 : (st0 p).groups = 0 := rfl
  generalize hst : st0 p = st at *
  -- the place behind the bracket, in the group
  have hd0 : g.rs.drop st.next = [40] ++ (u ++ [41]) := hdr
  have v0 : seeOf g st = 40 := by rw [see_head hd0]; rfl
  have hd1 : g.rs.drop (st.on 1).next = u ++ [41] := drop_on hd0
  obtain ⟨r, v, rfl, hr⟩ := hu
  have v1 : seeOf g (st.on 1) = r := by rw [see_head hd1]; rfl
  have hq : inSet lQuery r = false := by
    have h0 : (lQuery : List UInt8) = [63] := rfl
    rw [h0]
    simp [inSet]
    omega
  have hh : pHead g (st.on 1) = { st.on 1 with groups := (st.on 1).groups + 1 } := by
    unfold pHead
    rw [v1, hq, if_pos rfl]
  generalize hs2 : ({ st.on 1 with groups := (st.on 1).groups + 1 } : RS) = st2 at hh
  have hd2 : g.rs.drop st2.next = (r :: v) ++ [41] := by rw [← hs2]; exact hd1
  obtain ⟨m, hm⟩ : ∃ m, g.rs.length = m + 1 := ⟨g.rs.length - 1, by rw [hl]; omega⟩
  obtain ⟨a1, a2⟩ := h g st2 [41] m (by omega) hd2 (Or.inr rfl)
  have hd3 := drop_on hd2
  have v3 : seeOf g (st2.on (r :: v).length) = 41 := by rw [see_head hd3]; rfl
  have hd4 : g.rs.drop ((st2.on (r :: v).length).on 1).next = [] := drop_on (u := [41]) (v := []) hd3
  have v4 : seeOf g ((st2.on (r :: v).length).on 1) = -1 := by rw [see_head hd4]; rfl
  have e1 : pAtom g (pAlt g (m + 1)) st = ((st2.on (r :: v).length).on 1, brP pw) := by
    unfold pAtom
    rw [v0, if_pos (by decide)]
    show pBracket g (pAlt g (m + 1)) (st.on 1) = _
    unfold pBracket
    rw [hh, a1]
    simp only
    unfold needSt
    rw [v3, if_pos (by decide)]
    rfl
  have e2 : cAtom g (cAlt g (m + 1)) false st = grC cw := by
    unfold cAtom
    rw [v0, if_pos (by decide)]
    show cBracket g (cAlt g (m + 1)) false (st.on 1) = _
    unfold cBracket
    rw [v1, hq, if_pos rfl, hh, a2]
    show CT.node 2 [] false false 0 ((st.on 1).groups + 1) 0 0 false [cw] = _
    have : (st.on 1).groups = 0 := hg0
    rw [this]
    rfl
  have e3 : ∀ q c, pRepeated g q ((st2.on (r :: v).length).on 1) = ((st2.on (r :: v).length).on 1, q) ∧ cRepeated g c ((st2.on (r :: v).length).on 1) = c := fun q c => by
    have := RepOk.none g ((st2.on (r :: v).length).on 1) [] (by rw [hd4]; rfl) ⟨rfl, rfl, rfl, rfl⟩ q c
    exact this
  have hno : ¬ (seeOf g st = -1 ∨ inSet lBarRound (seeOf g st) = true) := by rw [v0]; decide
  have f1 : pSeq g (pAlt g (m + 1)) st = ((st2.on (r :: v).length).on 1, seqP [brP pw]) := by
    have : pSeqs g (pAlt g (m + 1)) (g.rs.length + 1) st [] = ((st2.on (r :: v).length).on 1, [brP pw]) := by
      show (if seeOf g st = -1 ∨ inSet lBarRound (seeOf g st) = true then (st, []) else pSeqs g (pAlt g (m + 1)) g.rs.length (pRepeated g (pAtom g (pAlt g (m + 1)) st).2 (pAtom g (pAlt g (m + 1)) st).1).1 ([] ++ [(pRepeated g (pAtom g (pAlt g (m + 1)) st).2 (pAtom g (pAlt g (m + 1)) st).1).2])) = _
      rw [if_neg hno, e1]
      simp only
      rw [(e3 (brP pw) cw).1, pSeqs_stop (Or.inl v4)]
      rfl
    unfold pSeq
    rw [this]
    rfl
  have f2 : cSeq g (pAlt g (m + 1)) (cAlt g (m + 1)) false st = seqC [grC cw] := by
    have : cSeqs g (pAlt g (m + 1)) (cAlt g (m + 1)) false (g.rs.length + 1) st [] = [grC cw] := by
      show (if seeOf g st = -1 ∨ inSet lBarRound (seeOf g st) = true then [] else cSeqs g (pAlt g (m + 1)) (cAlt g (m + 1)) false g.rs.length (pRepeated g (pAtom g (pAlt g (m + 1)) st).2 (pAtom g (pAlt g (m + 1)) st).1).1 ([] ++ [cRepeated g (cAtom g (cAlt g (m + 1)) false st) (pAtom g (pAlt g (m + 1)) st).1])) = _
      rw [if_neg hno, e1, e2]
      simp only
      rw [(e3 (brP pw) (grC cw)).1, (e3 (brP pw) (grC cw)).2, cSeqs_end _ _ _ _ _ _ _ (Or.inl v4)]
      rfl
    unfold cSeq
    rw [this]
    rfl
  have hnb : inSet lBar (seeOf g ((st2.on (r :: v).length).on 1)) = false := by rw [v4]; rfl
  have w1 : pAlt g (g.rs.length + 1) st = ((st2.on (r :: v).length).on 1, altP [seqP [brP pw]]) := by
    show ((pAlts g (pAlt g g.rs.length) (g.rs.length + 1) (pSeq g (pAlt g g.rs.length) st).1 [(pSeq g (pAlt g g.rs.length) st).2]).1, PT.node 3 (pAlts g (pAlt g g.rs.length) (g.rs.length + 1) (pSeq g (pAlt g g.rs.length) st).1 [(pSeq g (pAlt g g.rs.length) st).2]).2 0 0) = _
    rw [hm, f1]
    simp only
    have : pAlts g (pAlt g (m + 1)) (m + 1 + 1) ((st2.on (r :: v).length).on 1) [seqP [brP pw]] = ((st2.on (r :: v).length).on 1, [seqP [brP pw]]) := by
      unfold pAlts
      rw [hnb]
      rfl
    rw [this]
    rfl
  have w2 : cAlt g (g.rs.length + 1) false st = altC [seqC [grC cw]] := by
    show CT.node 4 [] false false 0 0 0 0 false (cAlts g (pAlt g g.rs.length) (cAlt g g.rs.length) false (g.rs.length + 1) (pSeq g (pAlt g g.rs.length) st).1 [cSeq g (pAlt g g.rs.length) (cAlt g g.rs.length) false st]) = _
    rw [hm, f1, f2]
    simp only
    rw [cAlts_end _ _ _ _ _ _ _ hnb]
    rfl
  have hw : pWhole g st = ((st2.on (r :: v).length).on 1, altP [seqP [brP pw]]) := by
    unfold pWhole
    rw [w1, if_pos v4]
  refine ⟨?_, ?_, ?_⟩
  · unfold patE
    rw [if_neg (by omega)]
    unfold finFlt
    rw [hg, hst, hw]
    simp only
    rw [if_neg (by omega)]
    have : ((st2.on (r :: v).length).on 1).flt = flt0 := by rw [← hs2]; exact hf
    rw [this]
    rfl
  · unfold patG
    rw [hg, hst, hw, ← hs2]
    show (st.on 1).groups + 1 = 1
    have : (st.on 1).groups = 0 := hg0
    rw [this]
  · unfold patC cWhole
    rw [hg, hst]
    exact w2

abbrev Mean := TX → Cont × Cont → Cont × Cont
/-! ## what changes no group -/
def EvenR (f : Nat → List Int) (a b : List Int) (k l : Cont) : Prop := ∀ i, l i b = (k i a).map fun r => (r.1, f r.1)
def Even (F : Cont × Cont → Cont × Cont) : Prop := ∀ f a b (p q : Cont × Cont), EvenR f a b p.1 q.1 → EvenR f a b p.2 q.2 → EvenR f a b (F p).1 (F q).1 ∧ EvenR f a b (F p).2 (F q).2
section
variable {f : Nat → List Int} {a b : List Int}
theorem EvenR.fork {k l k' l' : Cont} (h : EvenR f a b k l) (h' : EvenR f a b k' l') : EvenR f a b (forkC k k') (forkC l l') := fun i => by
  unfold forkC
  rw [h i, h' i]
  cases k i a <;> rfl
theorem EvenR.no : EvenR f a b nowhere nowhere := fun i => rfl
theorem EvenR.take (x : TX) (sp : Spans) (fo nt : Bool) {k l : Cont} (h : EvenR f a b k l) : EvenR f a b (takeC x sp fo nt k) (takeC x sp fo nt l) := fun i => by
  unfold takeC
  split
  · exact h (i + 1)
  · rfl
theorem EvenR.stand (x : TX) (ed : Int) {k l : Cont} (h : EvenR f a b k l) : EvenR f a b (standC x ed k) (standC x ed l) := fun i => by
  unfold standC
  split
  · exact h i
  · rfl
theorem EvenR.again {F : Cont × Cont → Cont × Cont} (hF : Even F) (lz : Bool) {k l : Cont} (h : EvenR f a b k l) : ∀ n, EvenR f a b (againC F lz k n) (againC F lz l n)
  | 0 => EvenR.no
  | n + 1 => by
    have ih := EvenR.again hF lz h n
    have h1 := (hF f a b (nowhere, againC F lz k n) (nowhere, againC F lz l n) EvenR.no ih).1
    unfold againC
    cases lz
    · exact h1.fork h
    · exact h.fork h1
end
theorem Even.id : Even (fun p => p) := fun f a b p q h1 h2 => ⟨h1, h2⟩
theorem Even.comp {F G : Cont × Cont → Cont × Cont} (hF : Even F) (hG : Even G) : Even (fun p => F (G p)) := fun f a b p q h1 h2 => hF f a b _ _ (hG f a b p q h1 h2).1 (hG f a b p q h1 h2).2
theorem Even.fork {F G : Cont × Cont → Cont × Cont} (hF : Even F) (hG : Even G) : Even (fun p => forkP (F p) (G p)) := fun f a b p q h1 h2 => ⟨(hF f a b p q h1 h2).1.fork (hG f a b p q h1 h2).1, (hF f a b p q h1 h2).2.fork (hG f a b p q h1 h2).2⟩
theorem Even.either (lz : Bool) {F G : Cont × Cont → Cont × Cont} (hF : Even F) (hG : Even G) : Even (fun p => eitherP lz (F p) (G p)) := by
  unfold eitherP
  cases lz
  · exact hF.fork hG
  · exact hG.fork hF
theorem Even.take (x : TX) (sp : Spans) (fo nt : Bool) : Even (fun p => (takeC x sp fo nt p.2, takeC x sp fo nt p.2)) := fun f a b p q h1 h2 => ⟨h2.take x sp fo nt, h2.take x sp fo nt⟩
theorem Even.stand (x : TX) (ed : Int) : Even (standP x ed) := fun f a b p q h1 h2 => ⟨h1.stand x ed, h2.stand x ed⟩
theorem Even.iter {F : Cont × Cont → Cont × Cont} (hF : Even F) : ∀ n, Even (iterP F n)
  | 0 => Even.id
  | n + 1 => hF.comp (Even.iter hF n)
theorem Even.opts {F : Cont × Cont → Cont × Cont} (hF : Even F) (lz : Bool) : ∀ n, Even (fun nx => iterP (optP F lz nx) n nx)
  | 0 => Even.id
  | n + 1 => (hF.comp (Even.opts hF lz n)).either lz Even.id
theorem Even.loop (x : TX) {F : Cont × Cont → Cont × Cont} (hF : Even F) (lz : Bool) : Even (loopP x F lz) := by
  unfold loopP
  refine Even.either lz (fun f a b p q h1 h2 => ?_) Even.id
  have h := (hF f a b (nowhere, againC F lz p.2 (x.l.length + 1)) (nowhere, againC F lz q.2 (x.l.length + 1)) EvenR.no (EvenR.again hF lz h2 _)).1
  exact ⟨h, h⟩
theorem Even.times (x : TX) {F : Cont × Cont → Cont × Cont} (hF : Even F) (lo hi : Int) (lz : Bool) : Even (timesP x F lo hi lz) := by
  by_cases h : hi = -1
  · have e : timesP x F lo hi lz = fun nx => iterP F lo.toNat (loopP x F lz nx) := by funext nx; unfold timesP; rw [if_pos h]
    rw [e]
    exact (hF.iter _).comp (hF.loop x lz)
  · have e : timesP x F lo hi lz = fun nx => iterP F lo.toNat (iterP (optP F lz nx) (hi - lo).toNat nx) := by funext nx; unfold timesP; rw [if_neg h]
    rw [e]
    exact (hF.iter _).comp (hF.opts lz _)
/-! ## what pieces mean -/
theorem sem_leaf (x : TX) (sp : Spans) (fo nt : Bool) : semC x (cLeaf sp fo nt) = fun p => (takeC x sp fo nt p.2, takeC x sp fo nt p.2) := by
  funext p; unfold cLeaf semC; simp
theorem sem_edge (x : TX) (e : Int) : semC x (cEdge e) = standP x e := by
  funext p; unfold cEdge semC; simp
theorem sem_times (x : TX) (c : CT) (lo hi : Int) (lz : Bool) : semC x (cTimes c lo hi lz) = timesP x (semC x c) lo hi lz := by
  funext p; unfold cTimes; rw [semC]; simp [semOne]
theorem sem_br (x : TX) (c : CT) : semC x (brC c) = semC x c := by
  funext p; unfold brC; rw [semC]; simp [semOne]
theorem sem_gr (x : TX) (c : CT) : semC x (grC c) = fun p => markP x 0 (semC x c (markP x 1 p)) := by
  funext p; unfold grC; rw [semC]; simp [semOne]
theorem sem_seq (x : TX) (cs : List CT) : semC x (seqC cs) = semSeq x cs := by
  funext p; unfold seqC semC; simp
theorem sem_alt1 (x : TX) (c : CT) : semC x (altC [c]) = semC x c := by
  funext p; unfold altC; rw [semC]; simp [semAlt]
theorem sem_alt2 (x : TX) (c d : CT) : semC x (altC [c, d]) = fun p => forkP (semC x c p) (semC x d p) := by
  funext p; unfold altC; rw [semC]; simp [semAlt]
theorem sem_one (x : TX) (c : CT) : semSeq x [c] = semC x c := by
  funext p; simp [semSeq]
theorem sem_append (x : TX) (b : List CT) : ∀ a, semSeq x (a ++ b) = fun p => semSeq x a (semSeq x b p)
  | [] => by funext p; simp [semSeq]
  | c :: a => by
    funext p
    have h := sem_append x b a
    rw [List.cons_append, semSeq, semSeq, h]
/-! ## patterns out of parts -/
def begL : List UInt8 := [97, 98, 91, 46, 92, 40]
theorem beg_rep {r : UInt8} (h : r ∈ begL) : NoRep (r.toNat : Int) := by
  have hm : r = 97 ∨ r = 98 ∨ r = 91 ∨ r = 46 ∨ r = 92 ∨ r = 40 := by simpa [begL] using h
  rcases hm with rfl | rfl | rfl | rfl | rfl | rfl <;> exact ⟨rfl, rfl, rfl, rfl⟩
/-- u is a row of pieces, this deep, of this size at most, that means F -/
structure Sq (d : Nat) (m : Int) (u : List UInt8) (F : Mean) : Prop where
  ok : ∃ ps cs, SeqOk d (toI u) ps cs ∧ 0 ≤ PT.sizes ps ∧ PT.sizes ps ≤ m ∧ ∀ x, semSeq x cs = F x
  beg : ∃ r v, u = r :: v ∧ r ∈ begL
  asc : ∀ b ∈ u, b.toNat < 128
theorem toI_append (u v : List UInt8) : toI (u ++ v) = toI u ++ toI v := by unfold toI; exact List.map_append
theorem sizes_append (qs : List PT) : ∀ ps, PT.sizes (ps ++ qs) = PT.sizes ps + PT.sizes qs
  | [] => by rw [List.nil_append, PT.sizes]; omega
  | p :: ps => by
    have h := sizes_append qs ps
    rw [List.cons_append, PT.sizes, PT.sizes, h]
    omega
theorem sizes_one (p : PT) : PT.sizes [p] = PT.size p := by rw [PT.sizes, PT.sizes]; omega
theorem size_seqP (ps : List PT) : PT.size (seqP ps) = min (PT.sizes ps) 1001 := by unfold seqP; rw [PT.size]; simp
theorem size_altP1 (p : PT) : PT.size (altP [p]) = min (PT.size p) 1001 := by unfold altP; rw [PT.size]; simp [sizes_one]
theorem size_altP2 (p q : PT) : PT.size (altP [p, q]) = min (PT.size p + PT.size q + 1) 1001 := by
  unfold altP
  rw [PT.size]
  have : PT.sizes [p, q] = PT.size p + PT.size q := by rw [PT.sizes, sizes_one]
  simp [this]
theorem size_brP (p : PT) : PT.size (brP p) = min (PT.size p + 1) 1001 := by unfold brP; rw [PT.size]; simp [sizes_one]
theorem size_tmP (lo hi : Int) (p : PT) : PT.size (tmP lo hi p) = min ((if hi = -1 then lo + 1 else hi) * (PT.size p + 1)) 1001 := by unfold tmP; rw [PT.size]; simp [sizes_one]
theorem Sq.up {d d' : Nat} {m m' : Int} {u : List UInt8} {F : Mean} (h : Sq d m u F) (hd : d ≤ d') (hm : m ≤ m') : Sq d' m' u F := by
  obtain ⟨⟨ps, cs, h1, h2, h3, h4⟩, hb, ha⟩ := h
  exact ⟨⟨ps, cs, h1.up hd, h2, by omega, h4⟩, hb, ha⟩
theorem Sq.append {d : Nat} {m m' : Int} {u v : List UInt8} {F G : Mean} (h : Sq d m u F) (h' : Sq d m' v G) : Sq d (m + m') (u ++ v) (fun x nx => F x (G x nx)) := by
  obtain ⟨⟨ps, cs, h1, h2, h3, h4⟩, ⟨r, t, hb, hb'⟩, ha⟩ := h
  obtain ⟨⟨qs, ds, g1, g2, g3, g4⟩, ⟨r', t', gb, gb'⟩, ga⟩ := h'
  refine ⟨⟨ps ++ qs, cs ++ ds, ?_, by rw [sizes_append]; omega, by rw [sizes_append]; omega, fun x => by rw [sem_append, h4, g4]⟩, ⟨r, t ++ v, by rw [hb]; rfl, hb'⟩, fun b hb => (List.mem_append.1 hb).elim (ha b) (ga b)⟩
  rw [toI_append]
  refine h1.append g1 (fun r hr => ?_)
  rw [gb] at hr
  cases hr
  exact beg_rep gb'
def eL (u : List UInt8) : List UInt8 := [40, 63, 58] ++ u ++ [41]
theorem toI_eL (u : List UInt8) : toI (eL u) = [40, 63, 58] ++ toI u ++ [41] := by unfold eL toI; simp
theorem eL_asc {u : List UInt8} (h : ∀ b ∈ u, b.toNat < 128) : ∀ b ∈ eL u, b.toNat < 128 := fun b hb => by
  unfold eL at hb
  simp only [List.mem_append, List.mem_cons, List.not_mem_nil, or_false] at hb
  rcases hb with (((rfl | rfl | rfl) | hb) | rfl)
  · decide
  · decide
  · decide
  · exact h b hb
  · decide
theorem Sq.ch {d : Nat} {m : Int} {u : List UInt8} {F : Mean} (h : Sq d m u F) : ∃ pw cw, ChOk d (toI u) pw cw ∧ 0 ≤ PT.size pw ∧ PT.size pw ≤ m ∧ ∀ x, semC x cw = F x := by
  obtain ⟨⟨ps, cs, h1, h2, h3, h4⟩, hb, ha⟩ := h
  have hc := h1.alt (AltsOk.nil d)
  rw [List.append_nil] at hc
  refine ⟨_, _, hc, ?_, ?_, fun x => by rw [sem_alt1, sem_seq, h4]⟩
  · rw [size_altP1, size_seqP]; omega
  · rw [size_altP1, size_seqP]; omega
theorem Sq.ch2 {d : Nat} {m m' : Int} {u v : List UInt8} {F G : Mean} (h : Sq d m u F) (h' : Sq d m' v G) : ∃ pw cw, ChOk d (toI (u ++ ([124] ++ v))) pw cw ∧ 0 ≤ PT.size pw ∧ PT.size pw ≤ m + m' + 1 ∧ ∀ x, semC x cw = fun nx => forkP (F x nx) (G x nx) := by
  obtain ⟨⟨ps, cs, h1, h2, h3, h4⟩, hb, ha⟩ := h
  obtain ⟨⟨qs, ds, g1, g2, g3, g4⟩, gb, ga⟩ := h'
  have hc := h1.alt (g1.alts (AltsOk.nil d))
  have e : toI u ++ 124 :: (toI v ++ []) = toI (u ++ ([124] ++ v)) := by unfold toI; simp
  rw [e] at hc
  refine ⟨_, _, hc, ?_, ?_, fun x => by rw [sem_alt2, sem_seq, sem_seq, h4, g4]⟩
  · rw [size_altP2, size_seqP, size_seqP]; omega
  · rw [size_altP2, size_seqP, size_seqP]; omega
theorem AtomOk.sq {d : Nat} {m : Int} {u : List UInt8} {p : PT} {c : CT} {F : Mean} (h : AtomOk d (toI u) p c) (hp : 0 ≤ PT.size p ∧ PT.size p ≤ m) (hc : ∀ x, semC x c = F x) (hb : ∃ r v, u = r :: v ∧ r ∈ begL) (ha : ∀ b ∈ u, b.toNat < 128) : Sq d m u F := by
  have h1 := h.item RepOk.none
  rw [List.append_nil] at h1
  exact ⟨⟨_, _, h1, by rw [sizes_one]; exact hp.1, by rw [sizes_one]; exact hp.2, fun x => by rw [sem_one]; exact hc x⟩, hb, ha⟩
theorem AtomOk.sqr {d : Nat} {m lo hi : Int} {lz : Bool} {u v : List UInt8} {p : PT} {c : CT} {F : Mean} (h : AtomOk d (toI u) p c) (hv : RepOk (toI v) (tmP lo hi) (fun c => cTimes c lo hi lz)) (hp : 0 ≤ PT.size p ∧ PT.size p ≤ m) (hc : ∀ x, semC x c = F x) (hb : ∃ r v, u = r :: v ∧ r ∈ begL) (ha : ∀ b ∈ u ++ v, b.toNat < 128) (K : Int) (hK : (if hi = -1 then lo + 1 else hi) = K) (hK0 : 0 ≤ K) : Sq d (K * (m + 1)) (u ++ v) (fun x => timesP x (F x) lo hi lz) := by
  have h1 := h.item hv
  obtain ⟨r, t, hb, hb'⟩ := hb
  have a1 : 0 ≤ K * (PT.size p + 1) := Int.mul_nonneg hK0 (by omega)
  have a2 : K * (PT.size p + 1) ≤ K * (m + 1) := Int.mul_le_mul_of_nonneg_left (by omega) hK0
  refine ⟨⟨_, _, by rw [toI_append]; exact h1, ?_, ?_, fun x => by rw [sem_one, sem_times, hc]⟩, ⟨r, t ++ v, by rw [hb]; rfl, hb'⟩, ha⟩
  · rw [sizes_one, size_tmP, hK]; omega
  · rw [sizes_one, size_tmP, hK]; omega
theorem Sq.br {d : Nat} {m : Int} {u : List UInt8} {F : Mean} (h : Sq d m u F) : Sq (d + 1) (m + 1) (eL u) F := by
  obtain ⟨pw, cw, h1, h2, h3, h4⟩ := h.ch
  have ha := h1.bracket
  rw [← toI_eL] at ha
  exact ha.sq ⟨by rw [size_brP]; omega, by rw [size_brP]; omega⟩ (fun x => by rw [sem_br, h4]) ⟨40, _, rfl, by decide⟩ (eL_asc h.asc)
theorem Sq.br2 {d : Nat} {m m' : Int} {u v : List UInt8} {F G : Mean} (h : Sq d m u F) (h' : Sq d m' v G) : Sq (d + 1) (m + m' + 2) (eL (u ++ ([124] ++ v))) (fun x nx => forkP (F x nx) (G x nx)) := by
  obtain ⟨pw, cw, h1, h2, h3, h4⟩ := h.ch2 h'
  have ha := h1.bracket
  rw [← toI_eL] at ha
  refine ha.sq ⟨by rw [size_brP]; omega, by rw [size_brP]; omega⟩ (fun x => by rw [sem_br, h4]) ⟨40, _, rfl, by decide⟩ (eL_asc fun b hb => ?_)
  simp only [List.mem_append, List.mem_singleton] at hb
  rcases hb with hb | rfl | hb
  · exact h.asc b hb
  · decide
  · exact h'.asc b hb
/-- in brackets, so many times -/
theorem Sq.brr {d : Nat} {m lo hi : Int} {lz : Bool} {u v : List UInt8} {F : Mean} (h : Sq d m u F) (hv : RepOk (toI v) (tmP lo hi) (fun c => cTimes c lo hi lz)) (hva : ∀ b ∈ v, b.toNat < 128) (K : Int) (hK : (if hi = -1 then lo + 1 else hi) = K) (hK0 : 0 ≤ K) : Sq (d + 1) (K * (m + 1 + 1)) (eL u ++ v) (fun x => timesP x (F x) lo hi lz) := by
  obtain ⟨pw, cw, h1, h2, h3, h4⟩ := h.ch
  have ha := h1.bracket
  rw [← toI_eL] at ha
  exact ha.sqr hv ⟨by rw [size_brP]; omega, by rw [size_brP]; omega⟩ (fun x => by rw [sem_br, h4]) ⟨40, _, rfl, by decide⟩ (fun b hb => (List.mem_append.1 hb).elim (eL_asc h.asc b) (hva b)) K hK hK0
/-- a pattern without fault and group that means F -/
def Pat (p : ByteArray) (F : Mean) : Prop := p.size ≤ 300 ∧ patE p = 0 ∧ patG p = 0 ∧ ∀ x, semC x (patC p) = F x
theorem asc_of {p : ByteArray} {u : List UInt8} (hp : p.data.toList = u) (h : ∀ b ∈ u, b.toNat < 128) : Asc p := fun x hx => h x (by rw [← hp]; exact hx)
theorem Sq.pat {p : ByteArray} {d : Nat} {m : Int} {u : List UInt8} {F : Mean} (h : Sq d m u F) (hp : p.data.toList = u) (hl : u.length ≤ 300) (hd : d ≤ u.length) (hm : m ≤ 1000) : Pat p F := by
  obtain ⟨pw, cw, h1, h2, h3, h4⟩ := h.ch
  have hsz : p.size = u.length := by rw [← hp]; simp
  have hI : bytesI p = toI u := by unfold bytesI toI; rw [hp]
  rw [← hI] at h1
  obtain ⟨a1, a2, a3⟩ := pat_whole (asc_of hp h.asc) (by omega) h1 (by omega) (by omega)
  exact ⟨by omega, a1, a2, fun x => by rw [a3, h4]⟩
theorem Sq.bar {p : ByteArray} {d : Nat} {m m' : Int} {u v : List UInt8} {F G : Mean} (h : Sq d m u F) (h' : Sq d m' v G) (hp : p.data.toList = u ++ ([124] ++ v)) (hl : u.length + v.length < 300) (hd : d ≤ u.length) (hm : m + m' < 1000) : Pat p (fun x nx => forkP (F x nx) (G x nx)) := by
  obtain ⟨pw, cw, h1, h2, h3, h4⟩ := h.ch2 h'
  have hsz : p.size = u.length + v.length + 1 := by
    have : p.size = p.data.toList.length := by simp
    rw [this, hp]
    simp
    omega
  have hI : bytesI p = toI (u ++ ([124] ++ v)) := by unfold bytesI toI; rw [hp]
  rw [← hI] at h1
  have hA : ∀ b ∈ u ++ ([124] ++ v), b.toNat < 128 := fun b hb => by
    simp only [List.mem_append, List.mem_singleton] at hb
    rcases hb with hb | rfl | hb
    · exact h.asc b hb
    · decide
    · exact h'.asc b hb
  obtain ⟨a1, a2, a3⟩ := pat_whole (asc_of hp hA) (by omega) h1 (by omega) (by omega)
  exact ⟨by omega, a1, a2, fun x => by rw [a3, h4]⟩
theorem Sq.group {p : ByteArray} {d : Nat} {m : Int} {u : List UInt8} {F : Mean} (h : Sq d m u F) (hp : p.data.toList = 40 :: (u ++ [41])) (hl : u.length ≤ 290) (hd : d ≤ u.length) (hm : m ≤ 900) : p.size ≤ 300 ∧ patE p = 0 ∧ patG p = 1 ∧ ∀ x, semC x (patC p) = fun nx => markP x 0 (F x (markP x 1 nx)) := by
  obtain ⟨pw, cw, h1, h2, h3, h4⟩ := h.ch
  have hsz : p.size = u.length + 2 := by
    have : p.size = p.data.toList.length := by simp
    rw [this, hp]
    simp
  have hI : bytesI p = 40 :: (toI u ++ [41]) := by unfold bytesI toI; rw [hp]; simp
  have hA : ∀ b ∈ 40 :: (u ++ [41]), b.toNat < 128 := fun b hb => by
    simp only [List.mem_cons, List.mem_append, List.not_mem_nil, or_false] at hb
    rcases hb with rfl | hb | rfl
    · decide
    · exact h.asc b hb
    · decide
  obtain ⟨r, v, hu, hr⟩ := h.beg
  obtain ⟨a1, a2, a3⟩ := pat_group (asc_of hp hA) (by omega) hI ⟨(r.toNat : Int), toI v, by rw [hu]; rfl, by
    have hm : r = 97 ∨ r = 98 ∨ r = 91 ∨ r = 46 ∨ r = 92 ∨ r = 40 := by simpa [begL] using hr
    rcases hm with rfl | rfl | rfl | rfl | rfl | rfl <;> decide⟩ h1 (by omega) (by rw [size_altP1, size_seqP, sizes_one, size_brP]; omega)
  refine ⟨by omega, a1, a2, fun x => ?_⟩
  rw [a3, sem_alt1, sem_seq, sem_one, sem_gr, h4]
/-! ## what is found -/
theorem Pat.same {p q : ByteArray} {F : Mean} (hp : Pat p F) (hq : Pat q F) (s : ByteArray) : findE p s = findE q s := by
  obtain ⟨_, _, p3, p4⟩ := hp
  obtain ⟨_, _, q3, q4⟩ := hq
  have e : tryAt (patC p) (patG p) (txOf s) = tryAt (patC q) (patG q) (txOf s) := by
    funext i
    unfold tryAt
    rw [p3, q3, p4, q4]
  unfold findE
  rw [e]
theorem evs_map {T T' : Nat → Got} {n : Nat} (f : Nat → Nat → List Int) (h : ∀ i, T' i = (T i).map fun r => (r.1, f i r.1)) : ∀ (k i : Nat) (told : Option Nat), evs T' n k i told = (evs T n k i told).map fun e => (⟨e.a, e.b, f e.a e.b⟩ : Ev)
  | 0, _, _ => rfl
  | k + 1, i, told => by
    have ih := evs_map (n := n) f h k
    unfold evs
    by_cases hn : n < i
    · rw [if_pos hn, if_pos hn]; rfl
    · rw [if_neg hn, if_neg hn, h i]
      cases T i with
      | none => exact ih _ _
      | some v =>
        obtain ⟨j, gs⟩ := v
        simp only [Option.map_some]
        by_cases hij : i = j
        · rw [if_pos hij, if_pos hij]
          by_cases ht : told = some j
          · rw [if_pos ht, if_pos ht]; exact ih _ _
          · rw [if_neg ht, if_neg ht, List.map_cons, ih]
        · rw [if_neg hij, if_neg hij, List.map_cons, ih]
theorem Pat.grouped {p q : ByteArray} {F : Mean} (hp : Pat p F) (hF : ∀ x, Even (F x)) (h3 : patG q = 1) (h4 : ∀ x, semC x (patC q) = fun nx => markP x 0 (F x (markP x 1 nx))) (s : ByteArray) : findE q s = (findE p s).map fun e => (⟨e.a, e.b, [(txOf s).bound e.a, (txOf s).bound e.b]⟩ : Ev) := by
  obtain ⟨_, _, p3, p4⟩ := hp
  unfold findE evsFrom
  refine evs_map (fun a b => [(txOf s).bound a, (txOf s).bound b]) (fun i => ?_) _ _ _
  unfold tryAt
  rw [p3, h3, p4, h4]
  generalize txOf s = x
  have h := (hF x (fun j => [x.bound i, x.bound j]) [] [x.bound i, -1] (doneC, doneC) (markP x 1 (doneC, doneC)) (fun j => rfl) (fun j => rfl)).2 i
  show (F x (markP x 1 (doneC, doneC))).2 i [x.bound i, -1] = _
  exact h
end Go.Proofs.YtnbfddjaonlmaaaGreatDoor
