/- Package whole's All; package trawl's Find. The reader's mirror hangs on a pattern's runes and places alone, not on where they lie in memory. Package trawl's Find. The names of the groups and their numbers, as the reader keeps them. The program: Pattern. -/
import Derived.Test.YtnbfddjaonlmaaaGreatDoorP39
import Derived.Test.YtnbfddjaonlmaaaGreatDoorP31
import Derived.Test.YtnbfddjaonlmaaaGreatDoorP28
import Derived.Maps.RangeWalk
import Derived.Deep.OwnRows
set_option linter.unusedVariables false
set_option maxRecDepth 100000
namespace Go.Proofs.YtnbfddjaonlmaaaGreatDoor
open Go.RowKit Go.Maps
set_option maxRecDepth 100000

theorem newCourse_rd (w : World) : Calls Tryz.prog 31 #[] w fun e w' => e = .returned (.agg #[.int .i64 0, .int .i64 (-1)]) ∧ Kept Nil w w' := by
  go_enter Tryz.func31, Tryz.ntmps31
  go_wp2_with fail
  exact bodyPost_ret (v := .agg #[.int .i64 0, .int .i64 (-1)]) (by simp [results, Tryz.results31, go_sem]) rfl ⟨rfl, (Kept.refl Nil w).alloc _⟩
set_option maxHeartbeats 4000000 in
theorem All_rd {w : World} {lo hi mb c u0 G2 : Nat} {vs : List Sv} {ms : List MS} {s : ByteArray} {T : Nat → Got} (hM : MaAt w lo hi mb c vs ms) (hgd : MGood ms) (hq : AllQ (G2 : Int) ms) (hfew : ms.length ≤ 4001) (hs : s.size ≤ 10000000) (hu0 : u0 < ms.length) (hG2 : G2 ≤ 100000)
    (hT : ∀ i, i ≤ (runesOf s).length → Runs ms (txOf s) (u0 : Int) i (List.replicate (2 * G2) (-1)) (T i)) (hgo : GoesOn T (runesOf s).length) :
    Calls Tryz.prog 21 #[.agg #[.slice (some ⟨mb, 0, none⟩) ms.length c, .int .i64 (u0 : Int), .int .i64 (G2 : Int)], .string s] w fun e w' => ∃ (v : Value) (l : List (Ev × Nat)), e = .returned v ∧ EvsAt w' w.heap.size v s (2 * G2) l ∧ l.map (·.1) = evsFrom T (runesOf s).length 0 none ∧ Kept Nil w w' := by
  have hTl := hM.tabs.lt
  have hMl := hM.sts.lt
  have hHl := hM.le
  have F := hid fun (W : World) => newCourse_rd W
  have F2 := hid fun (W : World) (k : Kept Nil w W) (cbk : Nat) (hc : Blk W cbk #[.int .i64 0, .int .i64 (-1)] 82) (hcl : w.heap.size ≤ cbk) => Events_rd (hM.kept k) hgd hq hfew hs hu0 hG2 hT hgo hc ⟨by omega, by omega, by omega, by omega⟩
  clear hM hgd hq hT hgo
  go_enter Tryz.func21, Tryz.ntmps21
  go_wp2_with fail
  refine (F.out _).mono ?_
  rintro e w1 ⟨rfl, k1⟩
  have hb := (Blk.new w #[.slice (some ⟨mb, 0, none⟩) ms.length c, .int .i64 (u0 : Int), .int .i64 (G2 : Int)] 65).kept k1 (fun h => h)
  have x0 : w1.cell? ⟨w.heap.size, 0, none⟩ = some (.slice (some ⟨mb, 0, none⟩) ms.length c) := hb.cell 0
  have x1 : w1.cell? ⟨w.heap.size, 1, none⟩ = some (.int .i64 (u0 : Int)) := hb.cell 1
  have x2 : w1.cell? ⟨w.heap.size, 2, none⟩ = some (.int .i64 (G2 : Int)) := hb.cell 2
  have hbl := hb.lt
  have K1 : Hid (Kept Nil w w1) := ((Kept.refl Nil w).alloc _).trans k1
  clear hb k1
  go_wp2_with fail
  have K2 : Hid (Kept Nil w (w1.alloc (.cells #[.int .i64 0, .int .i64 (-1)] 82))) := K1.out.alloc _
  have FF := hid (F2.out _ K2.out w1.heap.size (Blk.new w1 _ _) K1.out.size)
  refine (FF.out).mono ?_
  rintro e w3 ⟨v, l, rfl, hE, hl, k3⟩
  have hs1 := K1.out.size
  have FIN : Hid (EvsAt w3 w.heap.size v s (2 * G2) l ∧ l.map (·.1) = evsFrom T (runesOf s).length 0 none ∧ Kept Nil w w3) := by
    have e : (w1.alloc (.cells #[.int .i64 0, .int .i64 (-1)] 82)).heap.size = w1.heap.size + 1 := size_alloc1 _ _
    rw [e] at hE
    exact ⟨⟨ownsRow_lower hE.row (by omega), fun p hp => ⟨by have := (hE.grp p hp).1; omega, (hE.grp p hp).2⟩⟩, hl, K2.out.trans' k3 (fun i hi e => by omega)⟩
  clear hE hl k3 FF F2
  go_wp2_with fail
  go_ret
  exact ⟨v, l, rfl, FIN.out.1, FIN.out.2.1, FIN.out.2.2⟩
end Go.Proofs.YtnbfddjaonlmaaaGreatDoor
namespace Go.Proofs.YtnbfddjaonlmaaaGreatDoor

/-- a reader of these runes and places, wherever it lies -/
def coreOf (rs ps : List Int) : RG := { b := 0, ao := none, br := 0, cr := 0, bp := 0, cp := 0, bf := 0, bn := 0, rs := rs, ps := ps }
def RG.core (g : RG) : RG := coreOf g.rs g.ps
theorem pItems_core (g : RG) : ∀ m, pItems g m = pItems g.core m
  | 0 => rfl
  | m + 1 => by
    funext st
    show (if seeOf g st = -1 ∨ inSet lSquare (seeOf g st) = true then st else pItems g m (pItem g st)) = _
    rw [pItems_core g m]
    rfl
theorem pLetters_core (g : RG) (first : Nat) : ∀ m, pLetters g first m = pLetters g.core first m
  | 0 => rfl
  | m + 1 => by
    funext st
    show (if st.next < first + 8 ∧ inSet lLetters (seeOf g st) = true then pLetters g first m { st with next := st.next + 1 } else st) = _
    rw [pLetters_core g first m]
    rfl
theorem pClass_core (g : RG) : pClass g = pClass g.core := by
  funext st
  unfold pClass
  rw [pItems_core]
  rfl
theorem pName_core (g : RG) : pName g = pName g.core := by
  funext st
  unfold pName
  rw [pLetters_core]
  rfl
theorem pHead_core (g : RG) : pHead g = pHead g.core := by
  funext st
  unfold pHead
  rw [pName_core]
  rfl
theorem pAtom_core (g : RG) (alt : RS → RS × PT) : pAtom g alt = pAtom g.core alt := by
  funext st
  unfold pAtom pBracket
  rw [pHead_core, pClass_core]
  rfl
theorem pSeqs_core (g : RG) (alt : RS → RS × PT) : ∀ m, pSeqs g alt m = pSeqs g.core alt m
  | 0 => rfl
  | m + 1 => by
    funext st acc
    show (if seeOf g st = -1 ∨ inSet lBarRound (seeOf g st) = true then (st, acc) else pSeqs g alt m (pRepeated g (pAtom g alt st).2 (pAtom g alt st).1).1 (acc ++ [(pRepeated g (pAtom g alt st).2 (pAtom g alt st).1).2])) = _
    rw [pSeqs_core g alt m, pAtom_core]
    rfl
theorem pSeq_core (g : RG) (alt : RS → RS × PT) : pSeq g alt = pSeq g.core alt := by
  funext st
  unfold pSeq
  rw [pSeqs_core]
  rfl
theorem pAlts_core (g : RG) (alt : RS → RS × PT) : ∀ m, pAlts g alt m = pAlts g.core alt m
  | 0 => rfl
  | m + 1 => by
    funext st acc
    show (if inSet lBar (seeOf g st) then pAlts g alt m (pSeq g alt { st with next := st.next + 1 }).1 (acc ++ [(pSeq g alt { st with next := st.next + 1 }).2]) else (st, acc)) = _
    rw [pAlts_core g alt m, pSeq_core]
    rfl
theorem pAlt_core (g : RG) : ∀ k, pAlt g k = pAlt g.core k
  | 0 => rfl
  | k + 1 => by
    funext st
    show ((pAlts g (pAlt g k) (g.rs.length + 1) (pSeq g (pAlt g k) st).1 [(pSeq g (pAlt g k) st).2]).1, PT.node 3 (pAlts g (pAlt g k) (g.rs.length + 1) (pSeq g (pAlt g k) st).1 [(pSeq g (pAlt g k) st).2]).2 0 0) = _
    rw [pAlt_core g k, pAlts_core, pSeq_core]
    rfl
theorem cItems_core (g : RG) : ∀ m, cItems g m = cItems g.core m
  | 0 => rfl
  | m + 1 => by
    funext st acc
    show (if seeOf g st = -1 ∨ inSet lSquare (seeOf g st) = true then acc else cItems g m (pItem g st) (acc ++ cItem g st)) = _
    rw [cItems_core g m]
    rfl
theorem cAtom_core (g : RG) (calt : Bool → RS → CT) : cAtom g calt = cAtom g.core calt := by
  funext fo st
  unfold cAtom cBracket cClass
  rw [pHead_core, cItems_core]
  rfl
theorem cSeqs_core (g : RG) (alt : RS → RS × PT) (calt : Bool → RS → CT) (fo : Bool) : ∀ m, cSeqs g alt calt fo m = cSeqs g.core alt calt fo m
  | 0 => rfl
  | m + 1 => by
    funext st acc
    show (if seeOf g st = -1 ∨ inSet lBarRound (seeOf g st) = true then acc else cSeqs g alt calt fo m (pRepeated g (pAtom g alt st).2 (pAtom g alt st).1).1 (acc ++ [cRepeated g (cAtom g calt fo st) (pAtom g alt st).1])) = _
    rw [cSeqs_core g alt calt fo m, pAtom_core, cAtom_core]
    rfl
theorem cSeq_core (g : RG) (alt : RS → RS × PT) (calt : Bool → RS → CT) : cSeq g alt calt = cSeq g.core alt calt := by
  funext fo st
  unfold cSeq
  rw [cSeqs_core]
  rfl
theorem cAlts_core (g : RG) (alt : RS → RS × PT) (calt : Bool → RS → CT) (fo : Bool) : ∀ m, cAlts g alt calt fo m = cAlts g.core alt calt fo m
  | 0 => rfl
  | m + 1 => by
    funext st acc
    show (if inSet lBar (seeOf g st) then cAlts g alt calt fo m (pSeq g alt { st with next := st.next + 1 }).1 (acc ++ [cSeq g alt calt fo { st with next := st.next + 1 }]) else acc) = _
    rw [cAlts_core g alt calt fo m, pSeq_core, cSeq_core]
    rfl
theorem cAlt_core (g : RG) : ∀ k, cAlt g k = cAlt g.core k
  | 0 => rfl
  | k + 1 => by
    funext fo st
    show CT.node 4 [] false false 0 0 0 0 false (cAlts g (pAlt g k) (cAlt g k) fo (g.rs.length + 1) (pSeq g (pAlt g k) st).1 [cSeq g (pAlt g k) (cAlt g k) fo st]) = _
    rw [cAlt_core g k, pAlt_core g k, cAlts_core, pSeq_core, cSeq_core]
    rfl
theorem pWhole_core (g : RG) (st : RS) : pWhole g st = pWhole g.core st := by
  unfold pWhole
  rw [pAlt_core]
  rfl
theorem cWhole_core (g : RG) (st : RS) : cWhole g st = cWhole g.core st := by
  unfold cWhole
  rw [cAlt_core]
  rfl
/-- the reader of a pattern -/
def rgOf (p : ByteArray) : RG := coreOf ((scanFrom p (p.size + 1) 0).map (·.2)) ((scanFrom p (p.size + 1) 0).map (fun q => (q.1 : Int)) ++ [(p.size : Int)])
theorem core_is {g : RG} {p : ByteArray} (h1 : g.rs = (scanFrom p (p.size + 1) 0).map (·.2)) (h2 : g.ps = (scanFrom p (p.size + 1) 0).map (fun q => (q.1 : Int)) ++ [(p.size : Int)]) : g.core = rgOf p := by unfold RG.core rgOf; rw [h1, h2]
theorem whole_is {g : RG} {p : ByteArray} (h1 : g.rs = (scanFrom p (p.size + 1) 0).map (·.2)) (h2 : g.ps = (scanFrom p (p.size + 1) 0).map (fun q => (q.1 : Int)) ++ [(p.size : Int)]) : (∀ st, pWhole g st = pWhole (rgOf p) st) ∧ (∀ st, cWhole g st = cWhole (rgOf p) st) ∧ finFlt g p = finFlt (rgOf p) p := by
  have e := core_is h1 h2
  have a1 : ∀ st, pWhole g st = pWhole (rgOf p) st := fun st => by rw [pWhole_core, e]
  refine ⟨a1, fun st => by rw [cWhole_core, e], ?_⟩
  unfold finFlt
  rw [a1]
theorem rgOf_runes (p : ByteArray) : RunesOk (rgOf p) := fun r hr => by
  have hr : r ∈ (scanFrom p (p.size + 1) 0).map (·.2) := hr
  obtain ⟨q, hq, rfl⟩ := List.mem_map.1 hr
  exact scan_rune p _ _ q hq
/-- a pattern's piece, and how many groups it has -/
def patC (p : ByteArray) : CT := cWhole (rgOf p) (st0 p)
def patG (p : ByteArray) : Nat := (pWhole (rgOf p) (st0 p)).1.groups
/-- what is wrong with it, or 0 -/
def patE (p : ByteArray) : Int := if 300 < p.size then 1 else (pick (finFlt (rgOf p) p)).1
theorem patC_ok {p : ByteArray} (hs : p.size ≤ 300) (h : patE p = 0) : (patC p).ok ∧ (pWhole (rgOf p) (st0 p)).2.size ≤ 1000 ∧ (patC p).gok (patG p : Int) ∧ (patC p).wok := by
  unfold patE at h
  rw [if_neg (by omega)] at h
  obtain ⟨h1, h2⟩ := fin_clean h
  exact ⟨whole_ok _ _ h1, h2, gok_whole _ _, wok_whole (rgOf_runes p) _ h1⟩
end Go.Proofs.YtnbfddjaonlmaaaGreatDoor
namespace Go.Proofs.YtnbfddjaonlmaaaGreatDoor
open Go.RowKit Go.Maps
set_option maxRecDepth 100000

theorem McAt.ma {w : World} {lo hi base : Nat} {v : Value} {ms : List MS} (h : McAt w lo hi base v ms) (hne : ms ≠ []) (hle : hi ≤ w.heap.size) (hT : Tabs w) : ∃ mb c vs, v = .slice (some ⟨mb, 0, none⟩) ms.length c ∧ MaAt w lo hi mb c vs ms := by
  obtain ⟨vs, h1, h2, h3⟩ := h
  obtain ⟨hx, h1'⟩ := h1
  rcases h1' with ⟨_, h0⟩ | ⟨g, cap, cur, rfl, a1, a2, a3, a4, a5, a6⟩
  · exact absurd (List.length_eq_zero_iff.1 h0) hne
  · refine ⟨g, cap, vs, rfl, ⟨⟨h2, fun i hi' j hj => ?_, (Array.getElem?_eq_some_iff.1 a2).1, fun i b1 b2 => ⟨(h3 i b1 b2).k, (h3 i b1 b2).nx, (h3 i b1 b2).ot⟩⟩, h3, hle, hT⟩⟩
    have hf := flatS_get vs i (by omega) j hj
    rw [← hf, ← a6, List.getElem?_take_of_lt (by omega)]
    simp only [World.cell?, a2]
    simp
/-- the events of a pattern in a text -/
def findE (p s : ByteArray) : List Ev := evsFrom (tryAt (patC p) (patG p) (txOf s)) (runesOf s).length 0 none

set_option maxHeartbeats 8000000 in
theorem find_rd (p s : ByteArray) (w : World) (hp : p.size ≤ maxLen) (hs : s.size ≤ 10000000) (hT : Tabs w) : Calls Tryz.prog 9 #[.string p, .string s] w fun e w' => Kept Nil w w' ∧ ((patE p ≠ 0 ∧ e = .returned (.tuple #[.slice none 0 0, .int .i64 (patE p)])) ∨ (patE p = 0 ∧ ∃ (v : Value) (l : List (Ev × Nat)), e = .returned (.tuple #[v, .int .i64 0]) ∧ EvsAt w' w.heap.size v s (2 * patG p) l ∧ l.map (·.1) = findE p s)) := by
  have HT := hid hT
  clear hT
  by_cases hl : 300 < p.size
  · have e1 : patE p = 1 := if_pos hl
    have F := hid (read_long p w hl hp)
    have HE := hid e1
    clear e1
    go_enter Tryz.func9, Tryz.ntmps9
    go_wp2_with fail
    refine (F.out).mono ?_
    rintro e w1 ⟨rfl, k1⟩
    have K1 := hid k1
    clear k1 F
    simp only [patVal, patCells]
    go_wp2_with fail
    go_ret2
    refine ⟨?_, Or.inl ⟨by rw [HE.out]; decide, by rw [HE.out]; rfl⟩⟩
    exact K1.out.alloc _
  · have hl' : p.size ≤ 300 := by omega
    have F := hid (read_short p w hl')
    go_enter Tryz.func9, Tryz.ntmps9
    go_wp2_with fail
    refine (F.out).mono ?_
    rintro e w1 ⟨g, q, x, y, st, hrs, hps, rfl, k1, hst, hok⟩
    obtain ⟨a1, a2, a3⟩ := whole_is hrs hps
    rw [a1] at hst hok
    rw [a2, a3] at hok
    have hpe : (pick (finFlt g p)).1 = patE p := by unfold patE; rw [if_neg hl, a3]
    have hpe2 : (pick (finFlt (rgOf p) p)).1 = patE p := by unfold patE; rw [if_neg hl]
    rw [hpe]
    rw [hpe2] at hok
    clear hpe hpe2 a1 a2 a3 hrs hps
    generalize (pick (finFlt g p)).2 = pl
    have K1 := hid k1
    clear k1 F
    by_cases he : patE p = 0
    · obtain ⟨hx, hy, hrd, hpt, huse⟩ := hok he
      obtain ⟨c1, c2, c3, c4⟩ := patC_ok hl' he
      have hG : x = (patG p : Int) := by rw [hx, hst]; rfl
      have hGb : patG p ≤ 100000 := by
        have h1 := hrd.groups
        have h2 := hrd.next
        have h3 := hrd.len
        have h4 : st.groups = patG p := by rw [hst]; rfl
        simp only at h1 h2
        omega
      have hcz : (patC p).sz ≤ 1000 := by have := hpt.size_eq; rw [show patC p = cWhole (rgOf p) (st0 p) from rfl, this]; exact c2
      subst hG
      have HE := hid he
      have HPT : Hid (PTAt w1 w.heap.size w1.heap.size q (pWhole (rgOf p) (st0 p)).2 (patC p)) := hpt
      rw [he]
      have hs1 := K1.out.size
      clear hx hy hrd hpt huse hok hst he c2
      simp only [patVal, patCells]
      have B2 : Hid (Blk (w1.alloc (.cells #[.int .i64 q.k, .slice q.pa q.pn q.pc, .slice q.sa q.sn q.sc, .int .i64 q.ed, .int .i64 q.gr, .int .i64 q.lo, .int .i64 q.hi, .bool q.lz, .int .i64 (patG p : Int), .map y] 59)) w1.heap.size #[.int .i64 q.k, .slice q.pa q.pn q.pc, .slice q.sa q.sn q.sc, .int .i64 q.ed, .int .i64 q.gr, .int .i64 q.lo, .int .i64 q.hi, .bool q.lz, .int .i64 (patG p : Int), .map y] 59) := Blk.new w1 _ _
      have k12 : Hid (Kept Nil w1 (w1.alloc (.cells #[.int .i64 q.k, .slice q.pa q.pn q.pc, .slice q.sa q.sn q.sc, .int .i64 q.ed, .int .i64 q.gr, .int .i64 q.lo, .int .i64 q.hi, .bool q.lz, .int .i64 (patG p : Int), .map y] 59))) := (Kept.refl Nil w1).alloc _
      go_wp2_with fail
      have F := New_rd (HPT.out.kept k12.out (fun _ _ _ hx => hx) (Nat.le_refl _)) k12.out.size c1 hcz (patG p : Int) y
      simp only [patVal, patCells] at F
      have F := hid F
      refine (F.out).mono ?_
      rintro e w3 ⟨v', V, j, rfl, k3, hmo, hmc, hlen⟩
      have KK3 : Hid (Kept Nil w w3) := (K1.out.trans k12.out).trans k3
      have hs3 := k3.size
      have hs2 := k12.out.size
      obtain ⟨u0, hu1, hu2⟩ := hmo.start
      have hol := hmo.ords.1
      have hsl : (sorted (built (patC p)).1 V).length = V.ord.length := by simp [sorted]
      obtain ⟨mb, c, vs, hv', hma⟩ := hmc.ma (by intro e; have := congrArg List.length e; rw [hsl] at this; have h0 : V.ord.length = 0 := this; omega) (by omega) (HT.out.keptN KK3.out)
      subst hv'
      have hAQ : AllQ (patG p : Int) (sorted (built (patC p)).1 V) := sorted_q (built_q c3 c4)
      have F2 := All_rd (s := s) (u0 := u0) (G2 := patG p) (T := tryAt (patC p) (patG p) (txOf s)) hma (hmo.good (built_q c3 c4)) hAQ (by rw [hsl]; omega) hs (by rw [hsl]; exact hu2) hGb (fun i hi => hmo.runs c1 hcz c3 (txOf s) hu1 hi _) (tryAt_fwd c3 s)
      rw [hu1]
      have F2 := hid F2
      generalize (sorted (built (patC p)).1 V).length = nn at *
      clear hmc hma hmo hAQ hsl hol hu1 hu2 hlen k3 F
      go_wp2_with fail
      refine (F2.out).mono ?_
      rintro e w4 ⟨v, l, rfl, hE, hll, k4⟩
      have FIN : Hid (Kept Nil w w4 ∧ EvsAt w4 w.heap.size v s (2 * patG p) l ∧ l.map (·.1) = findE p s) := by
        have hs4 := KK3.out.size
        exact ⟨KK3.out.trans k4, ⟨ownsRow_lower hE.row hs4, fun r hr => ⟨by have := (hE.grp r hr).1; omega, (hE.grp r hr).2⟩⟩, hll⟩
      clear hE hll k4 F2
      go_wp2_with fail
      go_ret2
      exact ⟨FIN.out.1, Or.inr ⟨HE.out, v, l, rfl, FIN.out.2.1, FIN.out.2.2⟩⟩
    · obtain ⟨pe, HPE⟩ : ∃ pe, Hid (patE p = pe) := ⟨_, (rfl : _ = _)⟩
      rw [HPE.out] at he ⊢
      have hne : (pe != 0) = true := by simpa using he
      have HE := hid he
      simp only [patVal, patCells]
      clear hok he
      go_wp2_with fail
      go_ret2
      exact ⟨K1.out.alloc _, Or.inl ⟨by rw [HPE.out]; exact HE.out, by rw [HPE.out]; rfl⟩⟩
end Go.Proofs.YtnbfddjaonlmaaaGreatDoor
namespace Go.Proofs.YtnbfddjaonlmaaaGreatDoor

/-- the groups and their names are left as they are -/
def Keep (a b : RS) : Prop := a.groups = b.groups ∧ a.names = b.names
theorem Keep.refl (a : RS) : Keep a a := ⟨rfl, rfl⟩
theorem Keep.trans {a b c : RS} (h : Keep a b) (k : Keep b c) : Keep a c := ⟨h.1.trans k.1, h.2.trans k.2⟩
theorem note_keep (st : RS) (e p : Int) (_h : 3 ≤ e ∧ e ≤ 6) : Keep (st.note e p) st := ⟨rfl, rfl⟩
theorem step_keep (st : RS) (n : Nat) : Keep { st with next := n } st := ⟨rfl, rfl⟩
variable {g : RG}
theorem refuse_keep (st : RS) : Keep (refuseOf g st) st := ⟨rfl, rfl⟩
theorem need_keep (l : List UInt8) (st : RS) : Keep (needSt g l st) st := by
  unfold needSt
  split
  · exact Keep.refl _
  · exact refuse_keep st
theorem needOther_keep (l : List UInt8) (st : RS) : Keep (needOtherSt g l st) st := by
  unfold needOtherSt
  split
  · exact refuse_keep st
  · exact Keep.refl _
theorem take_keep (l : List UInt8) (st : RS) : Keep (takeOf g l st) st := by
  unfold takeOf
  split <;> exact Keep.refl _
theorem pDigit_keep (st : RS) : Keep (pDigit g st).1 st := by
  unfold pDigit
  split
  · exact Keep.refl _
  · exact refuse_keep st
theorem pNumber_keep (st : RS) : Keep (pNumber g st).1 st := by
  unfold pNumber
  split
  · exact (pDigit_keep _).trans (pDigit_keep _)
  · exact pDigit_keep _
theorem pHigh_keep (st : RS) : Keep (pHigh g st).1 st := by
  unfold pHigh
  split
  · exact Keep.refl _
  · exact pNumber_keep _
theorem pBounds_keep (st : RS) : Keep (pBounds g st).1 st := by
  unfold pBounds
  split
  · exact ((need_keep _ _).trans (pHigh_keep _)).trans (pNumber_keep st)
  · exact (need_keep _ _).trans (pNumber_keep st)
theorem pOne'_keep (st : RS) : Keep (pOne' g st).1 st := by
  unfold pOne' pOne
  split
  · exact (need_keep _ _).trans (take_keep _ _)
  · exact (needOther_keep _ _).trans (take_keep _ _)
theorem pItem_keep (st : RS) : Keep (pItem g st) st := by
  unfold pItem
  split
  · exact Keep.refl _
  · unfold pUpto
    split
    · split
      · exact ((note_keep _ 5 _ (by omega)).trans (pOne'_keep _)).trans (pOne'_keep st)
      · exact (pOne'_keep _).trans (pOne'_keep st)
    · exact pOne'_keep st
theorem pItems_keep : ∀ (m : Nat) (st : RS), Keep (pItems g m st) st
  | 0, st => Keep.refl _
  | m + 1, st => by
    unfold pItems
    split
    · exact Keep.refl _
    · exact (pItems_keep m _).trans (pItem_keep st)
theorem pClass_keep (st : RS) : Keep (pClass g st) st := (((need_keep _ _).trans (pItems_keep _ _)).trans (pItem_keep _)).trans (take_keep _ _)
theorem pRepeated_keep (A : PT) (st : RS) : Keep (pRepeated g A st).1 st := by
  unfold pRepeated
  split
  · exact take_keep _ _
  · split
    · exact take_keep _ _
    · split
      · exact take_keep _ _
      · split
        · simp only
          refine (take_keep _ _).trans ?_
          split
          · exact (note_keep _ 4 _ (by omega)).trans (pBounds_keep _)
          · exact pBounds_keep _
        · exact Keep.refl _

theorem pLetters_keep (first : Nat) : ∀ (m : Nat) (st : RS), Keep (pLetters g first m st) st
  | 0, _ => Keep.refl _
  | m + 1, st => by
    unfold pLetters
    split
    · exact (pLetters_keep first m { st with next := st.next + 1 }).trans (step_keep st _)
    · exact Keep.refl _

/-- each name has a number of its own, and no name stands twice -/
def Nums (st : RS) : Prop := (∀ p ∈ st.names, 1 ≤ p.2 ∧ p.2 ≤ st.groups) ∧ st.names.Pairwise (fun p q => p.1 ≠ q.1 ∧ p.2 ≠ q.2)
/-- .. and the last group's is not given yet -/
def NumsLt (st : RS) : Prop := (1 ≤ st.groups ∧ ∀ p ∈ st.names, 1 ≤ p.2 ∧ p.2 < st.groups) ∧ st.names.Pairwise (fun p q => p.1 ≠ q.1 ∧ p.2 ≠ q.2)
theorem Nums.keep {a b : RS} (k : Keep a b) (h : Nums b) : Nums a := by
  unfold Nums at h ⊢
  rw [k.1, k.2]; exact h
theorem NumsLt.keep {a b : RS} (k : Keep a b) (h : NumsLt b) : NumsLt a := by
  unfold NumsLt at h ⊢
  rw [k.1, k.2]; exact h
theorem NumsLt.le {a : RS} (h : NumsLt a) : Nums a := ⟨fun p hp => by have := h.1.2 p hp; omega, h.2⟩
theorem Nums.more {st : RS} (h : Nums st) (n : Nat) : NumsLt { st with next := n, groups := st.groups + 1 } := ⟨⟨by simp, fun p hp => by have := h.1 p hp; exact ⟨this.1, Nat.lt_succ_of_le this.2⟩⟩, h.2⟩
theorem pNamed_nums (first : Nat) (st : RS) (h : NumsLt st) : Nums (pNamed g first st) := by
  unfold pNamed
  split
  · exact h.le.keep (note_keep _ 6 _ (by omega))
  · rename_i hn
    refine ⟨fun p hp => ?_, List.pairwise_cons.2 ⟨fun q hq => ⟨fun e => ?_, ?_⟩, h.2⟩⟩
    · rcases List.mem_cons.1 hp with rfl | hp
      · exact ⟨h.1.1, Nat.le_refl _⟩
      · have := h.1.2 p hp; exact ⟨this.1, by simp only; omega⟩
    · refine hn (List.any_eq_true.2 ⟨q, hq, ?_⟩)
      simp only at e
      rw [← e]; simp
    · have := h.1.2 q hq; simp only; omega
theorem pName_nums (st : RS) (h : NumsLt st) : Nums (pName g st) :=
  (pNamed_nums _ _ ((h.keep (need_keep _ _)).keep (pLetters_keep _ _ _))).keep (need_keep _ _)
theorem pHead_nums (st : RS) (h : Nums st) : Nums (pHead g st) := by
  unfold pHead
  split
  · exact (h.more st.next).le
  · split
    · exact pName_nums _ (h.more _)
    · exact ((h.keep (step_keep st _)).keep (take_keep _ _)).keep (need_keep _ _)
def AltNums (alt : RS → RS × PT) : Prop := ∀ st, Nums st → Nums (alt st).1
theorem pAtom_nums {alt : RS → RS × PT} (ha : AltNums alt) (st : RS) (h : Nums st) : Nums (pAtom g alt st).1 := by
  unfold pAtom
  split
  · exact (ha _ (pHead_nums _ (h.keep (step_keep st _)))).keep (need_keep _ _)
  · split
    · exact (h.keep (step_keep st _)).keep (pClass_keep _)
    · split
      · exact (h.keep (step_keep st _)).keep (need_keep _ _)
      · split
        · exact h.keep (step_keep st _)
        · exact h.keep (needOther_keep _ _)
theorem pSeqs_nums {alt : RS → RS × PT} (ha : AltNums alt) : ∀ (m : Nat) (st : RS) (acc : List PT), Nums st → Nums (pSeqs g alt m st acc).1
  | 0, _, _, h => h
  | m + 1, st, acc, h => by
    unfold pSeqs
    split
    · exact h
    · exact pSeqs_nums ha m _ _ ((pAtom_nums ha st h).keep (pRepeated_keep _ _))
theorem pAlts_nums {alt : RS → RS × PT} (ha : AltNums alt) : ∀ (m : Nat) (st : RS) (acc : List PT), Nums st → Nums (pAlts g alt m st acc).1
  | 0, _, _, h => h
  | m + 1, st, acc, h => by
    unfold pAlts
    split
    · exact pAlts_nums ha m _ _ (pSeqs_nums ha _ _ _ (h.keep (step_keep st _)))
    · exact h
theorem pAlt_nums : ∀ k, AltNums (pAlt g k)
  | 0, _, h => h
  | k + 1, st, h => by
    unfold pAlt
    exact pAlts_nums (pAlt_nums k) _ _ _ (pSeqs_nums (pAlt_nums k) _ _ _ h)
theorem pWhole_nums (st : RS) (h : Nums st) : Nums (pWhole g st).1 := by
  unfold pWhole
  split
  · exact pAlt_nums _ _ h
  · exact (pAlt_nums _ _ h).keep (refuse_keep _)

/-! ## the list of names -/
/-- of each group its name, by number; of one without a name nothing; 'left': names that are not looked at yet -/
def nameAt (names : List (List UInt8 × Nat)) (left : List UInt8 → Bool) (j : Nat) : List UInt8 := match names.find? (fun p => p.2 == j + 1 && !left p.1) with
  | some p => p.1
  | none => []
def nameList (st : RS) (left : List UInt8 → Bool) : List (List UInt8) := (List.range st.groups).map (nameAt st.names left)
theorem nameList_length (st : RS) (left : List UInt8 → Bool) : (nameList st left).length = st.groups := by simp [nameList]
theorem nameList_get (st : RS) (left : List UInt8 → Bool) (j : Nat) (h : j < st.groups) : (nameList st left)[j]? = some (nameAt st.names left j) := by
  simp [nameList, List.getElem?_map, List.getElem?_range h]
theorem nameAt_start (names : List (List UInt8 × Nat)) (left : List UInt8 → Bool) (h : ∀ p ∈ names, left p.1 = true) (j : Nat) : nameAt names left j = [] := by
  unfold nameAt
  rw [List.find?_eq_none.2 (fun p hp => by simp [h p hp])]
theorem nameAt_hit {names : List (List UInt8 × Nat)} (hp : names.Pairwise (fun p q => p.1 ≠ q.1 ∧ p.2 ≠ q.2)) {left : List UInt8 → Bool} {x : List UInt8} {c : Nat} (hm : (x, c) ∈ names) (hc : 1 ≤ c) : nameAt names (fun z => left z && !(z == x)) (c - 1) = x := by
  unfold nameAt
  cases hf : names.find? (fun p => p.2 == c - 1 + 1 && !(left p.1 && !(p.1 == x))) with
  | none =>
    have := List.find?_eq_none.1 hf _ hm
    simp at this; omega
  | some q =>
    have h1 := List.find?_some hf
    have h2 := List.mem_of_find?_eq_some hf
    simp only [Bool.and_eq_true, beq_iff_eq] at h1
    simp only
    apply Decidable.byContradiction
    intro hne
    have key : ∀ (l : List (List UInt8 × Nat)), l.Pairwise (fun p q => p.1 ≠ q.1 ∧ p.2 ≠ q.2) → ∀ a ∈ l, ∀ b ∈ l, a.2 = b.2 → a.1 = b.1 := by
      intro l hl a ha b hb hab
      induction l with
      | nil => simp at ha
      | cons y l ih =>
        rw [List.pairwise_cons] at hl
        rcases List.mem_cons.1 ha with rfl | ha1
        · rcases List.mem_cons.1 hb with rfl | hb
          · rfl
          · exact absurd hab (hl.1 b hb).2
        · rcases List.mem_cons.1 hb with rfl | hb
          · exact absurd hab.symm (hl.1 a ha1).2
          · exact ih hl.2 ha1 hb
    exact hne (key names hp q h2 (x, c) hm (by simp only; omega))
theorem find_congr {l : List (List UInt8 × Nat)} {f h : List UInt8 × Nat → Bool} (e : ∀ p ∈ l, f p = h p) : l.find? f = l.find? h := by
  induction l with
  | nil => rfl
  | cons a l ih =>
    rw [List.find?_cons, List.find?_cons, e a List.mem_cons_self, ih (fun p hp => e p (List.mem_cons_of_mem _ hp))]
theorem nameAt_other {names : List (List UInt8 × Nat)} (hp : names.Pairwise (fun p q => p.1 ≠ q.1 ∧ p.2 ≠ q.2)) {left : List UInt8 → Bool} {x : List UInt8} {c : Nat} (hm : (x, c) ∈ names) {j : Nat} (hj : j + 1 ≠ c) : nameAt names (fun z => left z && !(z == x)) j = nameAt names left j := by
  unfold nameAt
  have : ∀ p ∈ names, (p.2 == j + 1 && !(left p.1 && !(p.1 == x))) = (p.2 == j + 1 && !left p.1) := by
    intro p hpm
    cases hx : (p.1 == x)
    · simp
    · have e : p.1 = x := by simpa using hx
      have : p.2 = c := by
        have key : ∀ (l : List (List UInt8 × Nat)), l.Pairwise (fun p q => p.1 ≠ q.1 ∧ p.2 ≠ q.2) → ∀ a ∈ l, ∀ b ∈ l, a.1 = b.1 → a.2 = b.2 := by
          intro l hl a ha b hb hab
          induction l with
          | nil => simp at ha
          | cons y l ih =>
            rw [List.pairwise_cons] at hl
            rcases List.mem_cons.1 ha with rfl | ha1
            · rcases List.mem_cons.1 hb with rfl | hb
              · rfl
              · exact absurd hab (hl.1 b hb).1
            · rcases List.mem_cons.1 hb with rfl | hb
              · exact absurd hab.symm (hl.1 a ha1).1
              · exact ih hl.2 ha1 hb
        exact key names hp p hpm (x, c) hm e
      have : (p.2 == j + 1) = false := by simp; omega
      rw [this]; rfl
  rw [find_congr this]
end Go.Proofs.YtnbfddjaonlmaaaGreatDoor
namespace Go.Proofs.YtnbfddjaonlmaaaGreatDoor
open Go.RowKit Go.Maps
set_option maxRecDepth 100000

theorem Blk.newP {w : World} {b : Nat} (cs : Array Value) (t : TypeId) (h : b = w.heap.size) : Blk (w.alloc (.cells cs t (0, 0))) b cs t := by subst h; exact Blk.new w cs t
theorem Tryz.infoStrP : (Tryz.prog.info? 9).map (fun i => (i.zero, i.size, i.bytes)) = some (some (.string ⟨#[]⟩), 1, 16) := by kernel_rfl
theorem Tryz.lawS : Keyed Tryz.prog 9 := string_keyed Tryz.underlying9
theorem keyOf_string_inv {key : Value} {kl : Lit} (h : keyOf Tryz.prog 9 key = some kl) : ∃ x, key = .string x ∧ kl = .string x.data.toList := by
  cases key <;> simp [keyOf, Tryz.underlying9, mapKey] at h
  rename_i x
  exact ⟨x, rfl, h.2.symm⟩

def strs (l : List (List UInt8)) : Array Value := (l.map fun x => Value.string ⟨x.toArray⟩).toArray

theorem strs_set {st : RS} (hp : st.names.Pairwise (fun p q => p.1 ≠ q.1 ∧ p.2 ≠ q.2)) {left : List UInt8 → Bool} {x : List UInt8} {c : Nat} (hm : (x, c) ∈ st.names) (hc : 1 ≤ c) (hg : c ≤ st.groups) :
    (strs (nameList st left)).setIfInBounds (c - 1) (.string ⟨x.toArray⟩) = strs (nameList st (fun z => left z && !(z == x))) := by
  apply Array.ext_getElem?
  intro j
  have hlen : ∀ L, (strs (nameList st L)).size = st.groups := fun L => by simp [strs, nameList_length]
  by_cases hj : j < st.groups
  · have e : ∀ L, (strs (nameList st L))[j]? = some (.string ⟨(nameAt st.names L j).toArray⟩) := fun L => by
      unfold strs
      rw [List.getElem?_toArray, List.getElem?_map, nameList_get st L j hj]
      rfl
    rw [e, Array.getElem?_setIfInBounds]
    by_cases h : c - 1 = j
    · subst h
      rw [if_pos rfl, if_pos (by rw [hlen]; exact hj), nameAt_hit hp hm hc]
    · rw [if_neg h, e, nameAt_other hp hm (by omega)]
  · rw [Array.getElem?_eq_none (by rw [Array.size_setIfInBounds, hlen]; omega), Array.getElem?_eq_none (by rw [hlen]; omega)]

theorem made_strs (n : Nat) (st : RS) (hn : st.groups = n) (left : List UInt8 → Bool) (h : ∀ p ∈ st.names, left p.1 = true) : madeCells #[.string ⟨#[]⟩] n = strs (nameList st left) := by
  have e : nameList st left = List.replicate n [] := by
    unfold nameList
    rw [hn]
    apply List.ext_getElem?
    intro j
    by_cases hj : j < n
    · rw [List.getElem?_map, List.getElem?_range hj, List.getElem?_replicate, if_pos hj]
      exact congrArg some (nameAt_start st.names left h j)
    · rw [List.getElem?_eq_none (by simp; omega), List.getElem?_eq_none (by simp; omega)]
  rw [e]
  unfold strs
  apply Array.ext_getElem?
  intro j
  by_cases hj : j < n
  · have e1 : (madeCells #[.string ⟨#[]⟩] n)[j]? = some (.string ⟨#[]⟩) := by unfold madeCells; simp [hj, Nat.mod_one]
    have e2 : (List.map (fun x : List UInt8 => Value.string ⟨x.toArray⟩) (List.replicate n [])).toArray[j]? = some (.string ⟨#[]⟩) := by simp [hj]
    rw [e1, e2]
  · rw [Array.getElem?_eq_none (by rw [size_madeCells]; omega), Array.getElem?_eq_none (by simp; omega)]

set_option maxRecDepth 100000 in
theorem names_any {w : World} {q : Nv} {st : RS} {bn : Nat} {D : DataW Unit} (hown : w.ownsMap Tryz.prog 9 (plainElem (H := Unit) Tryz.prog 3) bn (Maps.size D) D) (hN : NMap D st.names) (hnum : Nums st) (hg : st.groups ≤ 300) :
    Calls Tryz.prog 26 #[patVal q st.groups (some bn)] w fun e w' => ∃ lb, e = .returned (.slice (some ⟨lb, 0, none⟩) st.groups st.groups) ∧ w.heap.size ≤ lb ∧ Blk w' lb (strs (nameList st (fun _ => false))) 9 ∧ Kept Nil w w' := by
  have hmk := fun w => run_make_row' (P := Tryz.prog) 25 9 (.string ⟨#[]⟩) 16 Tryz.underlying25 Tryz.infoStrP rfl .i64 .i64 st.groups (by omega) (by omega) w
  have k0 : Kept Nil w ((w.alloc (.cells (patCells q st.groups (some bn)) 59)).alloc (.cells (madeCells #[.string ⟨#[]⟩] st.groups) 9)) := ((Kept.refl _ _).alloc _).alloc _
  have hown0 := ownsMap_kept hown k0 (fun h => h)
  have b0 : Blk ((w.alloc (.cells (patCells q st.groups (some bn)) 59)).alloc (.cells (madeCells #[.string ⟨#[]⟩] st.groups) 9)) (w.heap.size + 1) (madeCells #[.string ⟨#[]⟩] st.groups) 9 := Blk.newP _ _ (by rw [size_alloc1])
  simp only [patVal, patCells] at k0 hown0 b0 ⊢
  go_enter Tryz.func26, Tryz.ntmps26
  go_wp2_with (at_range; refine wpList_range_own _ rfl _ 57 rfl 9 3 Tryz.lawS Tryz.underlying57 _ bn _ D rfl hown0 ?_; intro w0 hrg0 hg0 hs0)
  rw [size_alloc1, size_alloc1] at hrg0 hs0 ⊢
  have kw0 := k0.grown hg0 (fun k hk => by simp at hk)
  have bw0 := b0.kept (S := Nil) ((Kept.refl Nil _).grown hg0 (fun k hk => by simp at hk)) (fun h => h)
  rw [made_strs st.groups st rfl (fun z => Maps.has D (.string z)) (fun p hp => by rw [hN.has]; exact List.any_eq_true.2 ⟨p, hp, by simp⟩)] at bw0
  clear hown0 b0 k0 hg0
  go_frame
  go_loopw [4, 5] (fun _ _ wr => ∃ (left : Lit → Bool) (cnt : Nat), wr.ranges Tryz.prog 9 (plainElem (H := Unit) Tryz.prog 3) bn (w.heap.size + 1 + 1) (Maps.size D) D left cnt ∧ Hid (∀ kl, left kl = true → Maps.has D kl = true) ∧ Blk wr (w.heap.size + 1) (strs (nameList st (fun z => left (.string z)))) 9 ∧ Kept Nil w wr) (fun _ _ wr => wr.rangeLeft bn (w.heap.size + 1 + 1))
  case atStart => exact ⟨_, _, hrg0, fun kl h => h, bw0, kw0⟩
  case round =>
    obtain ⟨left, cnt, hrg, HL, hB, hk⟩ := hrel
    go_wp2_with (at_next; refine wpList_next_ranges _ rfl _ rfl 9 Tryz.lawS _ (fun x : ByteArray => Value.string x) (Value.int .i64) (fun key kl hkey => by obtain ⟨x, rfl, _⟩ := keyOf_string_inv hkey; exact ⟨x, rfl⟩) (fun v y hv => by obtain ⟨c, rfl, _⟩ := plainElem_int_inv Tryz.underlying3 hv; exact ⟨c, rfl⟩) bn (w.heap.size + 1 + 1) _ D left cnt rfl hrg ?_ ?_)
    · intro _ hl0
      go_wp2_with fail
      go_ret
      refine ⟨w.heap.size + 1, rfl, by omega, ?_, hk⟩
      have e : (fun z => left (.string z)) = fun _ => false := funext fun z => hl0 _
      rw [e] at hB
      exact hB
    · intro x c kl y1 y2 w1 cnt1 hkey hlk hv hat hrg1 hlt hg1 hs1 hen
      obtain ⟨x', ex, rfl⟩ := keyOf_string_inv hkey
      cases ex
      obtain ⟨c', ec, ey, hwc⟩ := plainElem_int_inv Tryz.underlying3 hv
      cases ec
      cases ey
      have hhas := HL.out _ hlk
      rw [hN.has] at hhas
      obtain ⟨q, hq, hqx⟩ := List.any_eq_true.1 hhas
      have hqx' : q.1 = x.data.toList := by simpa using hqx
      have hval := hN.val q.1 q.2 hq
      rw [hqx', hat] at hval
      have hcq : c = (q.2 : Int) := by simpa using hval
      have hqr := hnum.1 q hq
      have hqm : (x.data.toList, q.2) ∈ st.names := by rw [← hqx']; exact hq
      obtain ⟨cn, hcn⟩ : ∃ cn, cn = q.2 := ⟨_, rfl⟩
      rw [← hcn] at hcq hqr hqm
      subst hcq
      clear hval hqx hqx' hq hhas hcn hat hv hkey
      have B1 := hB.kept (S := fun i => i = w.heap.size + 1 + 1) ((Kept.refl _ _).grown hg1 (fun k hk => by simp at hk; exact Or.inl hk.symm)) (by omega)
      have k1 : Kept Nil w w1 := hk.grown hg1 (fun k hk' => by simp at hk'; exact Or.inr (by omega))
      have hx : x = ⟨x.data.toList.toArray⟩ := by cases x; simp
      have hset := strs_set hnum.2 (left := fun z => left (.string z)) hqm hqr.1 hqr.2
      rw [← hx] at hset
      obtain ⟨m, rfl⟩ : ∃ m, cn = m + 1 := ⟨cn - 1, by omega⟩
      rw [Nat.add_sub_cancel] at hset
      have B2 := B1.setCell m (.string x)
      rw [hset] at B2
      have cst : w1.cell? ⟨w.heap.size + 1, m, none⟩ = some (.string ⟨(nameAt st.names (fun z => left (.string z)) m).toArray⟩) := by
        rw [B1.cell m]
        unfold strs
        rw [List.getElem?_toArray, List.getElem?_map, nameList_get st _ m (by omega)]
        rfl
      have fst' : w1.frozen? ⟨w.heap.size + 1, m, none⟩ = false := B1.frozen _
      have hmI : (m : Int) < (st.groups : Int) := by omega
      have hg2 : w1.grownBy (w1.setCell ⟨w.heap.size + 1, m, none⟩ (.string x)) (some (w.heap.size + 1)) := ⟨rfl, rfl, rfl, by simp [World.setCell], fun i hi hne => Below.heap_setCell w1 _ _ i (by intro e; exact hne (by rw [e]))⟩
      have hbn := hown.lt
      have hrg2 := hrg1.kept hg2 (by simp; omega) (by simp)
      have k2 : Kept Nil w (w1.setCell ⟨w.heap.size + 1, m, none⟩ (.string x)) := k1.setCell (p := ⟨w.heap.size + 1, m, none⟩) (Or.inr (by simp only; omega)) _
      clear hset hx B1 k1 hB hk
      go_wp2_with fail
      go_roundw
      case rel => exact ⟨_, cnt1, hrg2, fun kl h => HL.out kl (by simp only [Bool.and_eq_true] at h; exact h.1), B2, k2⟩
      case measure => rw [hrg2.left_eq, hrg.left_eq]; exact hlt
end Go.Proofs.YtnbfddjaonlmaaaGreatDoor
