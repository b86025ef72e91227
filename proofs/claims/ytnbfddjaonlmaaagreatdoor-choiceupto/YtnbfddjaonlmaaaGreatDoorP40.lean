/- Package whole's All; package trawl's Find. The reader's mirror hangs on a pattern's runes and places alone, not on where they lie in memory. Package trawl's Find. The names of the groups and their numbers, as the reader keeps them. The program: Pattern. Package trawl's Names; sameInts. known: a pattern and a text whose events are known. Apart: events in order and apart. What the four rows without the document's answer share: the tables of package utf8, the bound, what a call that keeps old memory leaves. Package trawlkeep's small calls: pick, letters, held. Arguments that are rows of numbers: how they are read, and that they read the same behind a call that keeps old memory. -/
import Derived.Test.YtnbfddjaonlmaaaGreatDoorP39
import Derived.Test.YtnbfddjaonlmaaaGreatDoorP31
import Derived.Test.YtnbfddjaonlmaaaGreatDoorP28
import Derived.Maps.RangeWalk
import Derived.Deep.OwnRows
import Derived.Test.YtnbfddjaonlmaaaGreatDoorRows
import Derived.WalkKit
import Derived.ProofKit
import Derived.OpenShut
import Derived.ShutString
import Derived.LaidMore
import Derived.Lay
import Derived.SevenTiedAt
import Derived.Stop.Joined
import Derived.Lib.SmallJoins
import Derived.Lib.LaidU8
import Derived.Deep.DeepHandedRow
import Derived.ChangeSlices
import Derived.ChangeSame
set_option linter.unusedVariables false
set_option maxRecDepth 100000
namespace Go.Proofs.YtnbfddjaonlmaaaGreatDoor
open Go.RowKit Go.Maps
set_option maxRecDepth 100000

theorem newCourse_rd (w : World) : Calls Tryz.prog 31 #[] w fun e w' => e = .returned (.agg #[.int .i64 0, .int .i64 (-1)]) ∧ Kept Nil w w' := by
  go_enter Tryz.func31, Tryz.ntmps31
  go_wp2_with fail
  exact bodyPost_ret (v := .agg #[.int .i64 0, .int .i64 (-1)]) (by simp [results, Tryz.results31, go_sem]) rfl ⟨rfl, (Kept.refl Nil w).alloc _⟩
set_option maxHeartbeats 4000000 in
theorem All_rd {w : World} {lo hi mb c u0 G2 : Nat} {vs : List Sv} {ms : List MS} {s : ByteArray} {T : Nat → Got} (hM : MaAt w lo hi mb c vs ms) (hgd : MGood ms) (hq : AllQ (G2 : Int) ms) (hfew : ms.length ≤ 4001) (hs : s.size ≤ 10000000) (hu0 : u0 < ms.length) (hG2 : G2 ≤ 100000)
    (hT : ∀ i, i ≤ (runesOf s).length → Runs ms (txOf s) (u0 : Int) i (List.replicate (2 * G2) (-1)) (T i)) (hgo : GoesOn T (runesOf s).length) :
    Calls Tryz.prog 21 #[.agg #[.slice (some ⟨mb, 0, none⟩) ms.length c, .int .i64 (u0 : Int), .int .i64 (G2 : Int)], .string s] w fun e w' => ∃ (v : Value) (l : List (Ev × Nat)), e = .returned v ∧ EvsAt w' w.heap.size v s (2 * G2) l ∧ l.map (·.1) = evsFrom T (runesOf s).length 0 none ∧ Kept Nil w w' := by
  have hTl := hM.tabs.lt
  have hMl := hM.sts.lt
  have hHl := hM.le
  have F := hid fun (W : World) => newCourse_rd W
  have F2 := hid fun (W : World) (k : Kept Nil w W) (cbk : Nat) (hc : Blk W cbk #[.int .i64 0, .int .i64 (-1)] 82) (hcl : w.heap.size ≤ cbk) => Events_rd (hM.kept k) hgd hq hfew hs hu0 hG2 hT hgo hc ⟨by omega, by omega, by omega, by omega⟩
  clear hM hgd hq hT hgo
  go_enter Tryz.func21, Tryz.ntmps21
  go_wp2_with fail
  refine (F.out _).mono ?_
  rintro e w1 ⟨rfl, k1⟩
  have hb := (Blk.new w #[.slice (some ⟨mb, 0, none⟩) ms.length c, .int .i64 (u0 : Int), .int .i64 (G2 : Int)] 65).kept k1 (fun h => h)
  have x0 : w1.cell? ⟨w.heap.size, 0, none⟩ = some (.slice (some ⟨mb, 0, none⟩) ms.length c) := hb.cell 0
  have x1 : w1.cell? ⟨w.heap.size, 1, none⟩ = some (.int .i64 (u0 : Int)) := hb.cell 1
  have x2 : w1.cell? ⟨w.heap.size, 2, none⟩ = some (.int .i64 (G2 : Int)) := hb.cell 2
  have hbl := hb.lt
  have K1 : Hid (Kept Nil w w1) := ((Kept.refl Nil w).alloc _).trans k1
  clear hb k1
  go_wp2_with fail
  have K2 : Hid (Kept Nil w (w1.alloc (.cells #[.int .i64 0, .int .i64 (-1)] 82))) := K1.out.alloc _
  have FF := hid (F2.out _ K2.out w1.heap.size (Blk.new w1 _ _) K1.out.size)
  refine (FF.out).mono ?_
  rintro e w3 ⟨v, l, rfl, hE, hl, k3⟩
  have hs1 := K1.out.size
  have FIN : Hid (EvsAt w3 w.heap.size v s (2 * G2) l ∧ l.map (·.1) = evsFrom T (runesOf s).length 0 none ∧ Kept Nil w w3) := by
    have e : (w1.alloc (.cells #[.int .i64 0, .int .i64 (-1)] 82)).heap.size = w1.heap.size + 1 := size_alloc1 _ _
    rw [e] at hE
    exact ⟨⟨ownsRow_lower hE.row (by omega), fun p hp => ⟨by have := (hE.grp p hp).1; omega, (hE.grp p hp).2⟩⟩, hl, K2.out.trans' k3 (fun i hi e => by omega)⟩
  clear hE hl k3 FF F2
  go_wp2_with fail
  go_ret
  exact ⟨v, l, rfl, FIN.out.1, FIN.out.2.1, FIN.out.2.2⟩
end Go.Proofs.YtnbfddjaonlmaaaGreatDoor
namespace Go.Proofs.YtnbfddjaonlmaaaGreatDoor

/-- a reader of these runes and places, wherever it lies -/
def coreOf (rs ps : List Int) : RG := { b := 0, ao := none, br := 0, cr := 0, bp := 0, cp := 0, bf := 0, bn := 0, rs := rs, ps := ps }
def RG.core (g : RG) : RG := coreOf g.rs g.ps
theorem pItems_core (g : RG) : ∀ m, pItems g m = pItems g.core m
  | 0 => rfl
  | m + 1 => by
    funext st
    show (if seeOf g st = -1 ∨ inSet lSquare (seeOf g st) = true then st else pItems g m (pItem g st)) = _
    rw [pItems_core g m]
    rfl
theorem pLetters_core (g : RG) (first : Nat) : ∀ m, pLetters g first m = pLetters g.core first m
  | 0 => rfl
  | m + 1 => by
    funext st
    show (if st.next < first + 8 ∧ inSet lLetters (seeOf g st) = true then pLetters g first m { st with next := st.next + 1 } else st) = _
    rw [pLetters_core g first m]
    rfl
theorem pClass_core (g : RG) : pClass g = pClass g.core := by
  funext st
  unfold pClass
  rw [pItems_core]
  rfl
theorem pName_core (g : RG) : pName g = pName g.core := by
  funext st
  unfold pName
  rw [pLetters_core]
  rfl
theorem pHead_core (g : RG) : pHead g = pHead g.core := by
  funext st
  unfold pHead
  rw [pName_core]
  rfl
theorem pAtom_core (g : RG) (alt : RS → RS × PT) : pAtom g alt = pAtom g.core alt := by
  funext st
  unfold pAtom pBracket
  rw [pHead_core, pClass_core]
  rfl
theorem pSeqs_core (g : RG) (alt : RS → RS × PT) : ∀ m, pSeqs g alt m = pSeqs g.core alt m
  | 0 => rfl
  | m + 1 => by
    funext st acc
    show (if seeOf g st = -1 ∨ inSet lBarRound (seeOf g st) = true then (st, acc) else pSeqs g alt m (pRepeated g (pAtom g alt st).2 (pAtom g alt st).1).1 (acc ++ [(pRepeated g (pAtom g alt st).2 (pAtom g alt st).1).2])) = _
    rw [pSeqs_core g alt m, pAtom_core]
    rfl
theorem pSeq_core (g : RG) (alt : RS → RS × PT) : pSeq g alt = pSeq g.core alt := by
  funext st
  unfold pSeq
  rw [pSeqs_core]
  rfl
theorem pAlts_core (g : RG) (alt : RS → RS × PT) : ∀ m, pAlts g alt m = pAlts g.core alt m
  | 0 => rfl
  | m + 1 => by
    funext st acc
    show (if inSet lBar (seeOf g st) then pAlts g alt m (pSeq g alt { st with next := st.next + 1 }).1 (acc ++ [(pSeq g alt { st with next := st.next + 1 }).2]) else (st, acc)) = _
    rw [pAlts_core g alt m, pSeq_core]
    rfl
theorem pAlt_core (g : RG) : ∀ k, pAlt g k = pAlt g.core k
  | 0 => rfl
  | k + 1 => by
    funext st
    show ((pAlts g (pAlt g k) (g.rs.length + 1) (pSeq g (pAlt g k) st).1 [(pSeq g (pAlt g k) st).2]).1, PT.node 3 (pAlts g (pAlt g k) (g.rs.length + 1) (pSeq g (pAlt g k) st).1 [(pSeq g (pAlt g k) st).2]).2 0 0) = _
    rw [pAlt_core g k, pAlts_core, pSeq_core]
    rfl
theorem cItems_core (g : RG) : ∀ m, cItems g m = cItems g.core m
  | 0 => rfl
  | m + 1 => by
    funext st acc
    show (if seeOf g st = -1 ∨ inSet lSquare (seeOf g st) = true then acc else cItems g m (pItem g st) (acc ++ cItem g st)) = _
    rw [cItems_core g m]
    rfl
theorem cAtom_core (g : RG) (calt : Bool → RS → CT) : cAtom g calt = cAtom g.core calt := by
  funext fo st
  unfold cAtom cBracket cClass
  rw [pHead_core, cItems_core]
  rfl
theorem cSeqs_core (g : RG) (alt : RS → RS × PT) (calt : Bool → RS → CT) (fo : Bool) : ∀ m, cSeqs g alt calt fo m = cSeqs g.core alt calt fo m
  | 0 => rfl
  | m + 1 => by
    funext st acc
    show (if seeOf g st = -1 ∨ inSet lBarRound (seeOf g st) = true then acc else cSeqs g alt calt fo m (pRepeated g (pAtom g alt st).2 (pAtom g alt st).1).1 (acc ++ [cRepeated g (cAtom g calt fo st) (pAtom g alt st).1])) = _
    rw [cSeqs_core g alt calt fo m, pAtom_core, cAtom_core]
    rfl
theorem cSeq_core (g : RG) (alt : RS → RS × PT) (calt : Bool → RS → CT) : cSeq g alt calt = cSeq g.core alt calt := by
  funext fo st
  unfold cSeq
  rw [cSeqs_core]
  rfl
theorem cAlts_core (g : RG) (alt : RS → RS × PT) (calt : Bool → RS → CT) (fo : Bool) : ∀ m, cAlts g alt calt fo m = cAlts g.core alt calt fo m
  | 0 => rfl
  | m + 1 => by
    funext st acc
    show (if inSet lBar (seeOf g st) then cAlts g alt calt fo m (pSeq g alt { st with next := st.next + 1 }).1 (acc ++ [cSeq g alt calt fo { st with next := st.next + 1 }]) else acc) = _
    rw [cAlts_core g alt calt fo m, pSeq_core, cSeq_core]
    rfl
theorem cAlt_core (g : RG) : ∀ k, cAlt g k = cAlt g.core k
  | 0 => rfl
  | k + 1 => by
    funext fo st
    show CT.node 4 [] false false 0 0 0 0 false (cAlts g (pAlt g k) (cAlt g k) fo (g.rs.length + 1) (pSeq g (pAlt g k) st).1 [cSeq g (pAlt g k) (cAlt g k) fo st]) = _
    rw [cAlt_core g k, pAlt_core g k, cAlts_core, pSeq_core, cSeq_core]
    rfl
theorem pWhole_core (g : RG) (st : RS) : pWhole g st = pWhole g.core st := by
  unfold pWhole
  rw [pAlt_core]
  rfl
theorem cWhole_core (g : RG) (st : RS) : cWhole g st = cWhole g.core st := by
  unfold cWhole
  rw [cAlt_core]
  rfl
/-- the reader of a pattern -/
def rgOf (p : ByteArray) : RG := coreOf ((scanFrom p (p.size + 1) 0).map (·.2)) ((scanFrom p (p.size + 1) 0).map (fun q => (q.1 : Int)) ++ [(p.size : Int)])
theorem core_is {g : RG} {p : ByteArray} (h1 : g.rs = (scanFrom p (p.size + 1) 0).map (·.2)) (h2 : g.ps = (scanFrom p (p.size + 1) 0).map (fun q => (q.1 : Int)) ++ [(p.size : Int)]) : g.core = rgOf p := by unfold RG.core rgOf; rw [h1, h2]
theorem whole_is {g : RG} {p : ByteArray} (h1 : g.rs = (scanFrom p (p.size + 1) 0).map (·.2)) (h2 : g.ps = (scanFrom p (p.size + 1) 0).map (fun q => (q.1 : Int)) ++ [(p.size : Int)]) : (∀ st, pWhole g st = pWhole (rgOf p) st) ∧ (∀ st, cWhole g st = cWhole (rgOf p) st) ∧ finFlt g p = finFlt (rgOf p) p := by
  have e := core_is h1 h2
  have a1 : ∀ st, pWhole g st = pWhole (rgOf p) st := fun st => by rw [pWhole_core, e]
  refine ⟨a1, fun st => by rw [cWhole_core, e], ?_⟩
  unfold finFlt
  rw [a1]
theorem rgOf_runes (p : ByteArray) : RunesOk (rgOf p) := fun r hr => by
  have hr : r ∈ (scanFrom p (p.size + 1) 0).map (·.2) := hr
  obtain ⟨q, hq, rfl⟩ := List.mem_map.1 hr
  exact scan_rune p _ _ q hq
/-- a pattern's piece, and how many groups it has -/
def patC (p : ByteArray) : CT := cWhole (rgOf p) (st0 p)
def patG (p : ByteArray) : Nat := (pWhole (rgOf p) (st0 p)).1.groups
/-- what is wrong with it, or 0 -/
def patE (p : ByteArray) : Int := if 300 < p.size then 1 else (pick (finFlt (rgOf p) p)).1
theorem patC_ok {p : ByteArray} (hs : p.size ≤ 300) (h : patE p = 0) : (patC p).ok ∧ (pWhole (rgOf p) (st0 p)).2.size ≤ 1000 ∧ (patC p).gok (patG p : Int) ∧ (patC p).wok := by
  unfold patE at h
  rw [if_neg (by omega)] at h
  obtain ⟨h1, h2⟩ := fin_clean h
  exact ⟨whole_ok _ _ h1, h2, gok_whole _ _, wok_whole (rgOf_runes p) _ h1⟩
end Go.Proofs.YtnbfddjaonlmaaaGreatDoor
namespace Go.Proofs.YtnbfddjaonlmaaaGreatDoor
open Go.RowKit Go.Maps
set_option maxRecDepth 100000

theorem McAt.ma {w : World} {lo hi base : Nat} {v : Value} {ms : List MS} (h : McAt w lo hi base v ms) (hne : ms ≠ []) (hle : hi ≤ w.heap.size) (hT : Tabs w) : ∃ mb c vs, v = .slice (some ⟨mb, 0, none⟩) ms.length c ∧ MaAt w lo hi mb c vs ms := by
  obtain ⟨vs, h1, h2, h3⟩ := h
  obtain ⟨hx, h1'⟩ := h1
  rcases h1' with ⟨_, h0⟩ | ⟨g, cap, cur, rfl, a1, a2, a3, a4, a5, a6⟩
  · exact absurd (List.length_eq_zero_iff.1 h0) hne
  · refine ⟨g, cap, vs, rfl, ⟨⟨h2, fun i hi' j hj => ?_, (Array.getElem?_eq_some_iff.1 a2).1, fun i b1 b2 => ⟨(h3 i b1 b2).k, (h3 i b1 b2).nx, (h3 i b1 b2).ot⟩⟩, h3, hle, hT⟩⟩
    have hf := flatS_get vs i (by omega) j hj
    rw [← hf, ← a6, List.getElem?_take_of_lt (by omega)]
    simp only [World.cell?, a2]
    simp
/-- the events of a pattern in a text -/
def findE (p s : ByteArray) : List Ev := evsFrom (tryAt (patC p) (patG p) (txOf s)) (runesOf s).length 0 none

set_option maxHeartbeats 8000000 in
theorem find_rd (p s : ByteArray) (w : World) (hp : p.size ≤ maxLen) (hs : s.size ≤ 10000000) (hT : Tabs w) : Calls Tryz.prog 9 #[.string p, .string s] w fun e w' => Kept Nil w w' ∧ ((patE p ≠ 0 ∧ e = .returned (.tuple #[.slice none 0 0, .int .i64 (patE p)])) ∨ (patE p = 0 ∧ ∃ (v : Value) (l : List (Ev × Nat)), e = .returned (.tuple #[v, .int .i64 0]) ∧ EvsAt w' w.heap.size v s (2 * patG p) l ∧ l.map (·.1) = findE p s)) := by
  have HT := hid hT
  clear hT
  by_cases hl : 300 < p.size
  · have e1 : patE p = 1 := if_pos hl
    have F := hid (read_long p w hl hp)
    have HE := hid e1
    clear e1
    go_enter Tryz.func9, Tryz.ntmps9
    go_wp2_with fail
    refine (F.out).mono ?_
    rintro e w1 ⟨rfl, k1⟩
    have K1 := hid k1
    clear k1 F
    simp only [patVal, patCells]
    go_wp2_with fail
    go_ret2
    refine ⟨?_, Or.inl ⟨by rw [HE.out]; decide, by rw [HE.out]; rfl⟩⟩
    exact K1.out.alloc _
  · have hl' : p.size ≤ 300 := by omega
    have F := hid (read_short p w hl')
    go_enter Tryz.func9, Tryz.ntmps9
    go_wp2_with fail
    refine (F.out).mono ?_
    rintro e w1 ⟨g, q, x, y, st, hrs, hps, rfl, k1, hst, hok⟩
    obtain ⟨a1, a2, a3⟩ := whole_is hrs hps
    rw [a1] at hst hok
    rw [a2, a3] at hok
    have hpe : (pick (finFlt g p)).1 = patE p := by unfold patE; rw [if_neg hl, a3]
    have hpe2 : (pick (finFlt (rgOf p) p)).1 = patE p := by unfold patE; rw [if_neg hl]
    rw [hpe]
    rw [hpe2] at hok
    clear hpe hpe2 a1 a2 a3 hrs hps
    generalize (pick (finFlt g p)).2 = pl
    have K1 := hid k1
    clear k1 F
    by_cases he : patE p = 0
    · obtain ⟨hx, hy, hrd, hpt, huse⟩ := hok he
      obtain ⟨c1, c2, c3, c4⟩ := patC_ok hl' he
      have hG : x = (patG p : Int) := by rw [hx, hst]; rfl
      have hGb : patG p ≤ 100000 := by
        have h1 := hrd.groups
        have h2 := hrd.next
        have h3 := hrd.len
        have h4 : st.groups = patG p := by rw [hst]; rfl
        simp only at h1 h2
        omega
      have hcz : (patC p).sz ≤ 1000 := by have := hpt.size_eq; rw [show patC p = cWhole (rgOf p) (st0 p) from rfl, this]; exact c2
      subst hG
      have HE := hid he
      have HPT : Hid (PTAt w1 w.heap.size w1.heap.size q (pWhole (rgOf p) (st0 p)).2 (patC p)) := hpt
      rw [he]
      have hs1 := K1.out.size
      clear hx hy hrd hpt huse hok hst he c2
      simp only [patVal, patCells]
      have B2 : Hid (Blk (w1.alloc (.cells #[.int .i64 q.k, .slice q.pa q.pn q.pc, .slice q.sa q.sn q.sc, .int .i64 q.ed, .int .i64 q.gr, .int .i64 q.lo, .int .i64 q.hi, .bool q.lz, .int .i64 (patG p : Int), .map y] 59)) w1.heap.size #[.int .i64 q.k, .slice q.pa q.pn q.pc, .slice q.sa q.sn q.sc, .int .i64 q.ed, .int .i64 q.gr, .int .i64 q.lo, .int .i64 q.hi, .bool q.lz, .int .i64 (patG p : Int), .map y] 59) := Blk.new w1 _ _
      have k12 : Hid (Kept Nil w1 (w1.alloc (.cells #[.int .i64 q.k, .slice q.pa q.pn q.pc, .slice q.sa q.sn q.sc, .int .i64 q.ed, .int .i64 q.gr, .int .i64 q.lo, .int .i64 q.hi, .bool q.lz, .int .i64 (patG p : Int), .map y] 59))) := (Kept.refl Nil w1).alloc _
      go_wp2_with fail
      have F := New_rd (HPT.out.kept k12.out (fun _ _ _ hx => hx) (Nat.le_refl _)) k12.out.size c1 hcz (patG p : Int) y
      simp only [patVal, patCells] at F
      have F := hid F
      refine (F.out).mono ?_
      rintro e w3 ⟨v', V, j, rfl, k3, hmo, hmc, hlen⟩
      have KK3 : Hid (Kept Nil w w3) := (K1.out.trans k12.out).trans k3
      have hs3 := k3.size
      have hs2 := k12.out.size
      obtain ⟨u0, hu1, hu2⟩ := hmo.start
      have hol := hmo.ords.1
      have hsl : (sorted (built (patC p)).1 V).length = V.ord.length := by simp [sorted]
      obtain ⟨mb, c, vs, hv', hma⟩ := hmc.ma (by intro e; have := congrArg List.length e; rw [hsl] at this; have h0 : V.ord.length = 0 := this; omega) (by omega) (HT.out.keptN KK3.out)
      subst hv'
      have hAQ : AllQ (patG p : Int) (sorted (built (patC p)).1 V) := sorted_q (built_q c3 c4)
      have F2 := All_rd (s := s) (u0 := u0) (G2 := patG p) (T := tryAt (patC p) (patG p) (txOf s)) hma (hmo.good (built_q c3 c4)) hAQ (by rw [hsl]; omega) hs (by rw [hsl]; exact hu2) hGb (fun i hi => hmo.runs c1 hcz c3 (txOf s) hu1 hi _) (tryAt_fwd c3 s)
      rw [hu1]
      have F2 := hid F2
      generalize (sorted (built (patC p)).1 V).length = nn at *
      clear hmc hma hmo hAQ hsl hol hu1 hu2 hlen k3 F
      go_wp2_with fail
      refine (F2.out).mono ?_
      rintro e w4 ⟨v, l, rfl, hE, hll, k4⟩
      have FIN : Hid (Kept Nil w w4 ∧ EvsAt w4 w.heap.size v s (2 * patG p) l ∧ l.map (·.1) = findE p s) := by
        have hs4 := KK3.out.size
        exact ⟨KK3.out.trans k4, ⟨ownsRow_lower hE.row hs4, fun r hr => ⟨by have := (hE.grp r hr).1; omega, (hE.grp r hr).2⟩⟩, hll⟩
      clear hE hll k4 F2
      go_wp2_with fail
      go_ret2
      exact ⟨FIN.out.1, Or.inr ⟨HE.out, v, l, rfl, FIN.out.2.1, FIN.out.2.2⟩⟩
    · obtain ⟨pe, HPE⟩ : ∃ pe, Hid (patE p = pe) := ⟨_, (rfl : _ = _)⟩
      rw [HPE.out] at he ⊢
      have hne : (pe != 0) = true := by simpa using he
      have HE := hid he
      simp only [patVal, patCells]
      clear hok he
      go_wp2_with fail
      go_ret2
      exact ⟨K1.out.alloc _, Or.inl ⟨by rw [HPE.out]; exact HE.out, by rw [HPE.out]; rfl⟩⟩
end Go.Proofs.YtnbfddjaonlmaaaGreatDoor
namespace Go.Proofs.YtnbfddjaonlmaaaGreatDoor

variable {g : RG}
/-! ## the list of names -/
end Go.Proofs.YtnbfddjaonlmaaaGreatDoor
namespace Go.Proofs.YtnbfddjaonlmaaaGreatDoor
open Go.RowKit Go.Maps

set_option maxRecDepth 100000

theorem ints_cell {w : World} {g : Nat} {xs : List Int} (h : Blk w g (intL xs).toArray 3) : ∀ i, i < xs.length → w.cell? ⟨g, i, none⟩ = some (.int .i64 (xs.getD i 0)) := fun i hi => by
  have := h.cell i
  rw [this]
  simp [intL, hi]
theorem take_succ_eq {xs ys : List Int} {j : Nat} (h : xs.take j = ys.take j) (h1 : j < xs.length) (h2 : j < ys.length) (e : xs.getD j 0 = ys.getD j 0) : xs.take (j + 1) = ys.take (j + 1) := by
  simp only [List.getD_eq_getElem?_getD, List.getElem?_eq_getElem h1, List.getElem?_eq_getElem h2, Option.getD_some] at e
  rw [List.take_add_one, List.take_add_one, h, List.getElem?_eq_getElem h1, List.getElem?_eq_getElem h2, e]

set_option maxRecDepth 100000

theorem evF_get (s : ByteArray) (N2 : Nat) : ∀ (l : List (Ev × Nat)) (i : Nat) (h : i < l.length) (j : Nat) (hj : j < 4), (evF s N2 l)[i * 4 + j]? = (evC s N2 l[i].1 l[i].2)[j]?
  | [], i, h, _, _ => by simp at h
  | p :: l, 0, h, j, hj => by
    show (evC s N2 p.1 p.2 ++ evF s N2 l)[0 * 4 + j]? = _
    rw [List.getElem?_append_left (by show _ < 4; omega), show 0 * 4 + j = j by omega]
    rfl
  | p :: l, i + 1, h, j, hj => by
    show (evC s N2 p.1 p.2 ++ evF s N2 l)[(i + 1) * 4 + j]? = _
    rw [List.getElem?_append_right (by show 4 ≤ _; omega), show (i + 1) * 4 + j - (evC s N2 p.1 p.2).length = i * 4 + j by show (i + 1) * 4 + j - 4 = _; omega]
    exact evF_get s N2 l i (by simpa using h) j hj
/-- events in memory: where each one's cells stand -/
theorem EvsAt.get {w : World} {base : Nat} {v : Value} {s : ByteArray} {N2 : Nat} {l : List (Ev × Nat)} (h : EvsAt w base v s N2 l) (hne : l ≠ []) : ∃ g c, v = .slice (some ⟨g, 0, none⟩) l.length c ∧ base ≤ g ∧ g < w.heap.size ∧ l.length ≤ c ∧ ∀ i, (hi : i < l.length) → w.cell? ⟨g, i * 4, none⟩ = some (.int .i64 (bd s l[i].1.a : Int)) ∧ w.cell? ⟨g, i * 4 + 1, none⟩ = some (.int .i64 (bd s l[i].1.b : Int)) ∧ w.cell? ⟨g, i * 4 + 2, none⟩ = some (.slice (some ⟨l[i].2, 0, none⟩) N2 N2) ∧ w.cell? ⟨g, i * 4 + 3, none⟩ = some (.string (s.extract (bd s l[i].1.a) (bd s l[i].1.b))) := by
  obtain ⟨hx, h1⟩ := h.row
  rcases h1 with ⟨_, h0⟩ | ⟨g, cap, cur, rfl, a1, a2, a3, a4, a5, a6⟩
  · exact absurd (List.length_eq_zero_iff.1 h0) hne
  · refine ⟨g, cap, rfl, a1, (Array.getElem?_eq_some_iff.1 a2).1, (by omega), fun i hi => ?_⟩
    have key : ∀ j, j < 4 → w.cell? ⟨g, i * 4 + j, none⟩ = (evC s N2 l[i].1 l[i].2)[j]? := fun j hj => by
      rw [← evF_get s N2 l i hi j hj, ← a6, List.getElem?_take_of_lt (by omega)]
      simp only [World.cell?, a2]
      simp
    exact ⟨key 0 (by omega), key 1 (by omega), key 2 (by omega), key 3 (by omega)⟩

end Go.Proofs.YtnbfddjaonlmaaaGreatDoor
namespace Go.Proofs.YtnbfddjaonlmaaaGreatDoor
open Go.ChangeShapes Go.WideShapes Go.ChangeAt Go.RowKit
set_option maxRecDepth 100000

theorem first_is : Lib.firstData = Rows.laid_unicode_utf8_first := by kernel_rfl
theorem accept_is : (Lib.acceptData : DataW Unit) = Rows.laid_unicode_utf8_acceptRanges := by kernel_rfl
/-- the two tables of package utf8, out of what the rows list -/
theorem tabs_laid {W : World} (hL : laidMetH Tryz.prog Rows.apartUptoRow.laid W) : Tabs W := by
  have hM : laidMet Tryz.prog Rows.apartUptoRow.laid W := by
    rw [← MakeChecks.laidMetH_plain _ _ _ (by kernel_rfl)]
    exact hL
  have h3 := Lib.laidMet.reads hM (n := "unicode/utf8.first") (d := Rows.laid_unicode_utf8_first) (.tail _ (.tail _ (.head _)))
  have h4 := Lib.laidMet.reads hM (n := "unicode/utf8.acceptRanges") (d := Rows.laid_unicode_utf8_acceptRanges) (.head _)
  rw [← first_is] at h3
  rw [← accept_is] at h4
  exact utf8Tabs_of_reads (ρ := Tryz.lays271_ren) { Tryz.lays271 with } ⟨by kernel_rfl, by kernel_rfl, by kernel_rfl, by kernel_rfl, by kernel_rfl, by kernel_rfl, by kernel_rfl⟩ h3 h4
theorem own : ownKnob Tryz.prog.godebug = none := by kernel_rfl
end Go.Proofs.YtnbfddjaonlmaaaGreatDoor
namespace Go.Proofs.YtnbfddjaonlmaaaGreatDoor
open Go.RowKit Go.Maps
set_option maxRecDepth 100000

theorem tmod_small (c n : Int) (hc : 0 ≤ c) (hn : 0 < n) : 0 ≤ Int.tmod c n ∧ Int.tmod c n < n := by
  rw [Int.tmod_eq_emod_of_nonneg hc]
  exact ⟨Int.emod_nonneg _ (by omega), Int.emod_lt_of_pos _ hn⟩
theorem pick_rd (c : Int) (n : Nat) (w : World) (hn : 0 < n) (hn2 : n ≤ 1000) (h1 : -9223372036854775808 ≤ c) (h2 : c ≤ 9223372036854775807) : Calls Tryz.prog 13 #[.int .i64 c, .int .i64 (n : Int)] w fun e w' => (∃ k : Nat, e = .returned (.int .i64 (k : Int)) ∧ k < n) ∧ w' = w := by
  have hz : ((n : Int) == 0) = false := by simp; omega
  by_cases h0 : c < 0
  · go_enter Tryz.func13, Tryz.ntmps13
    go_wp2_with fail
    go_ret
    have h := tmod_small (-(c + 1)) n (by omega) (by omega)
    refine ⟨⟨((-(c + 1)).tmod n).toNat, ?_, by omega⟩, rfl⟩
    have e : (((-(c + 1)).tmod n).toNat : Int) = -((c + 1).tmod n) := by rw [← Int.neg_tmod]; omega
    rw [e]
    rfl
  · have hc : 0 ≤ c := by omega
    go_enter Tryz.func13, Tryz.ntmps13
    go_wp2_with fail
    go_ret
    have h1 := Int.emod_nonneg c (show (n : Int) ≠ 0 by omega)
    have h2 := Int.emod_lt_of_pos c (show (0 : Int) < n by omega)
    refine ⟨⟨(c % n).toNat, ?_, by omega⟩, rfl⟩
    have e : ((c % n).toNat : Int) = c % n := by omega
    rw [e]
    rfl
/-- a row of numbers, as an argument holds it -/
def RawAt (w : World) (v : Value) (zs : List Int) : Prop := (v = .slice none 0 0 ∧ zs = []) ∨ ∃ (a : Addr) (c : Nat), v = .slice (some a) zs.length c ∧ zs.length ≤ c ∧ (∀ i, i < zs.length → w.cell? (a.add i) = some (.int .i64 (zs.getD i 0))) ∧ ∀ z ∈ zs, -9223372036854775808 ≤ z ∧ z ≤ 9223372036854775807
theorem slice_one (s : ByteArray) (q : Nat) (h : q < s.size) (wx : World) : (Instr.slice 9 (.string s) (some (.int .i64 (q : Int))) (some (.int .i64 ((q : Int) + 1))) none).run Tryz.prog wx = .ok (.string (s.extract q (q + 1))) wx := by
  have := run_slice_string (P := Tryz.prog) wx 9 s .i64 .i64 (q : Int) ((q : Int) + 1) Tryz.underlying9 (by omega) (by omega) (by omega)
  rw [this]
  congr 3 <;> omega
theorem mem_app_ext {s t : ByteArray} {i j : Nat} {b : UInt8} (h : b ∈ (s ++ t.extract i j).data.toList) : b ∈ s.data.toList ∨ b ∈ t.data.toList := by
  rw [ByteArray.data_append, Array.toList_append, List.mem_append] at h
  rcases h with h | h
  · exact Or.inl h
  · rw [ByteArray.data_extract, Array.toList_extract] at h
    exact Or.inr (List.mem_of_mem_drop (List.mem_of_mem_take h))
theorem RawAt.kept {w w' : World} {v : Value} {zs : List Int} (h : RawAt w v zs) (k : Kept Nil w w') : RawAt w' v zs := by
  rcases h with h | ⟨a, c, h1, hc, h3, h4⟩
  · exact Or.inl h
  · exact Or.inr ⟨a, c, h1, hc, fun i hi => (k.cell (p := a.add i) (World.block_lt_of_cell? _ _ (h3 i hi)) (fun h => h)).trans (h3 i hi), h4⟩
set_option maxHeartbeats 2000000 in
theorem letters_rd {w : World} {v : Value} {zs : List Int} {of : ByteArray} (hR : RawAt w v zs) (hz : zs.length ≤ 10000000) (ho : 0 < of.size) (ho2 : of.size ≤ 1000) : Calls Tryz.prog 7 #[v, .string of] w fun e w' => (∃ s : ByteArray, e = .returned (.string s) ∧ s.size = zs.length ∧ ∀ b ∈ s.data.toList, b ∈ of.data.toList) ∧ w' = w := by
  rcases hR with ⟨rfl, rfl⟩ | ⟨a, c, rfl, _, h3, h4⟩
  · go_enter Tryz.func7, Tryz.ntmps7
    go_wp2_with fail
    go_loopg [5, 6] 0 (fun kk s i wr => kk = 0 ∧ s = .string ⟨#[]⟩ ∧ i = .int .i64 0 ∧ wr = w)
    case atStart => exact ⟨rfl, rfl, rfl, rfl⟩
    case round =>
      obtain ⟨rfl, rfl, rfl, rfl⟩ := hrel
      go_wp2_with fail
      go_ret
      exact ⟨⟨⟨#[]⟩, rfl, rfl, fun b h => by simp at h⟩, rfl⟩
  · have H3 := hid h3
    have H4 := hid h4
    obtain ⟨n, HN⟩ : ∃ n, Hid (zs.length = n) := ⟨_, (rfl : _ = _)⟩
    rw [HN.out] at hz ⊢
    clear h3 h4
    go_enter Tryz.func7, Tryz.ntmps7
    go_wp2_with fail
    go_loopg [5, 6] n (fun kk sv i wr => ∃ (s : ByteArray) (k : Nat), sv = .string s ∧ i = .int .i64 k ∧ k ≤ n ∧ kk = n - k ∧ s.size = k ∧ Hid (∀ b ∈ s.data.toList, b ∈ of.data.toList) ∧ wr = w)
    case atStart => exact ⟨⟨#[]⟩, 0, rfl, rfl, Nat.zero_le _, rfl, rfl, fun b h => by simp at h, rfl⟩
    case round =>
      obtain ⟨s, k, rfl, rfl, hk, rfl, hsz, HM, rfl⟩ := hrel
      by_cases hlt : k < n
      · have hlt2 : k < zs.length := by rw [HN.out]; exact hlt
        have d1 := H3.out k hlt2
        have hb := H4.out (zs.getD k 0) (by simp [List.getD_eq_getElem?_getD, hlt2])
        generalize zs.getD k 0 = z at *
        have F := hid (pick_rd z of.size wr ho ho2 hb.1 hb.2)
        go_wp2_with fail
        refine (F.out).mono ?_
        rintro e w' ⟨⟨q, rfl, hq⟩, rfl⟩
        clear F
        have hq1 : (q : Int) + 1 ≤ (of.size : Int) := by omega
        have hsl := fun wx => slice_one of q hq wx
        go_wp2_with fail
        go_roundg (n - (k + 1))
        case measure => omega
        case rel =>
          refine ⟨_, k + 1, rfl, by go_num, by omega, rfl, ?_, fun b hb => ?_, rfl⟩
          · rw [ByteArray.size_append, ByteArray.size_extract]; omega
          · rcases mem_app_ext hb with h | h
            · exact HM.out b h
            · exact h
      · have hkn : k = n := by omega
        subst hkn
        go_wp2_with fail
        go_ret
        exact ⟨⟨s, rfl, hsz, HM.out⟩, rfl⟩
end Go.Proofs.YtnbfddjaonlmaaaGreatDoor
namespace Go.Proofs.YtnbfddjaonlmaaaGreatDoor
open Go.ChangeShapes Go.WideShapes Go.ChangeAt Go.RowKit

/-- a call that leaves old memory as it was: what the statement asks of it -/
theorem post_kept {H : Type} {enc : TypeId × Value → H} {P : Program} {f : Func} {s : ChangeSpec} {apart fresh handsOn again : Bool} {W W' : World} {args : Array Value} {v : Value} {ds gs : List (DataW H)} {before pa pv : List MemPlace}
    (hW : DataW.Whole enc P f.params.toList s.vars apart W args.toList ds gs before)
    (hres : ∀ (b : Nat) (sp : Nat → Bool) (hd : Bool), DataW.TrodAll enc P W' b sp hd f.resultTypes.toList (v.resultList f.resultTypes.size) (s.fn H (ds ++ gs)).results [])
    (hargs : ∀ sp : Nat → Bool, (∀ p ∈ before, sp p.block = true) → DataW.TrodAll enc P W' 0 sp true f.params.toList args.toList (s.fn H (ds ++ gs)).args pa)
    (hvars : ∀ sp : Nat → Bool, (∀ p ∈ before, sp p.block = true) → DataW.TrodVars enc P W' sp s.vars (s.fn H (ds ++ gs)).vars pv)
    (hps : before = pa ++ pv) (hk : Kept Nil W W')
    (hok : ∀ (j : Nat) (t : TypeId) (r : Value), f.resultTypes[j]? = some t → (v.resultList f.resultTypes.size)[j]? = some r → Value.okWide P W' .any 0 t r) :
    s.post enc P f apart fresh handsOn again W args v W' := by
  have hlt := hW.lt
  have hold : ∀ p ∈ before, (fun b => decide (b < W.heap.size)) p.block = true := fun p hp => by simpa using hlt p hp
  refine ⟨ds, gs, before, [], pa, pv, hW, hres _ _ _, hargs _ hold, hvars _ hold, World.keptBut_mono (fun p hp => ⟨hp, ?_⟩) ((hk.below (Nat.le_refl _) (fun _ _ h => h)).frame _), fun _ => ?_⟩
  · rw [hps, List.mem_append] at hp
    exact Or.inr hp
  · obtain ⟨_, _, _, _, _, hz, hn⟩ := hW
    refine ⟨hok, _, _, ([] ++ pa) ++ pv, ⟨[] ++ pa, pv, trodAll_append (hargs _ (fun _ _ => rfl)) (hres _ _ _), hvars _ (fun _ _ => rfl), rfl, ?_, ?_⟩, ?_⟩
    · intro b off hp
      have hp' : MemPlace.cell b off ∈ before := by rw [hps]; simpa using hp
      rw [hk.frozen (p := ⟨b, off, none⟩) (hlt _ hp') (fun h => h)]
      exact hz b off hp'
    · intro ha
      have := hn ha
      rw [hps] at this
      simpa using this
    · intro p hp _
      rw [hps]
      simpa using hp
theorem bulk_len {H : Type} : ∀ l : List Int, (lits (H := H) .i64 l).length ≤ Rows.uptoBulkAll (lits (H := H) .i64 l)
  | [] => Nat.le_refl _
  | x :: l => by
    have := bulk_len (H := H) l
    show (lits (H := H) .i64 l).length + 1 ≤ 1 + Rows.uptoBulkAll (lits (H := H) .i64 l)
    omega
theorem Tryz.cellsInt : Tryz.prog.cellsOf 3 = 1 := by kernel_rfl
/-- an argument of numbers -/
theorem open_raw {H : Type} {enc : TypeId × Value → H} {W : World} {v : Value} {d : DataW H} {p : List MemPlace} {base : Nat} (hv : Value.okWide Tryz.prog W .any base 22 v) (h : DataW.Trod enc Tryz.prog W 0 (fun _ => true) true 22 v d p) :
    ∃ zs, RawAt W v zs ∧ zs.length ≤ Rows.uptoBulk d ∧ ∀ W', Kept Nil W W' → ∀ sp : Nat → Bool, (∀ q ∈ p, sp q.block = true) → DataW.Trod enc Tryz.prog W' 0 sp true 22 v d p := by
  obtain ⟨a0, len0, cap0, rfl⟩ := okWide_slice Tryz.underlying22 hv
  obtain ⟨fuel, hf⟩ := h
  rcases open_ints Tryz.underlying22 Tryz.underlying3 Tryz.cellsInt hf with ⟨hcs, hx⟩ | ⟨a, len, cap, zs, hcs, hb, hl, hm, hz, hx, hcell, hwz⟩
  · simp [Value.cells] at hcs
    obtain ⟨rfl, rfl, rfl⟩ := hcs
    simp only [Prod.mk.injEq] at hx
    obtain ⟨rfl, rfl⟩ := hx
    exact ⟨[], Or.inl ⟨rfl, rfl⟩, Nat.zero_le _, fun W' _ sp _ => shut_slice_nil Tryz.underlying22⟩
  · simp [Value.cells] at hcs
    obtain ⟨rfl, rfl, rfl⟩ := hcs
    simp only [Prod.mk.injEq] at hx
    obtain ⟨rfl, rfl⟩ := hx
    simp only [if_true] at hz
    have hlen : (zs.take len0).length = len0 := by rw [List.length_take]; omega
    refine ⟨zs.take len0, Or.inr ⟨a, cap0, by rw [hlen], by rw [hlen]; exact hl, fun i hi => ?_, fun z hz' => ?_⟩, ?_, fun W' k sp hsp => ?_⟩
    · rw [hlen] at hi
      rw [hcell i (by omega)]
      simp [List.getD_eq_getElem?_getD, hi]
    · have := hwz z (List.mem_of_mem_take hz')
      simpa [Lit.wf, IntKind.min, IntKind.max, IntKind.signed, IntKind.bits] using this
    · have h1 := bulk_len (H := H) (zs.take len0)
      have h2 : (lits (H := H) .i64 (zs.take len0)).length = (zs.take len0).length := by unfold lits; rw [List.length_map]
      simp only [Rows.uptoBulk]
      omega
    · refine ⟨2, ?_⟩
      have hsz : zs.length = (if sp a.block then cap0 else len0) := by
        by_cases h0 : zs.length = 0
        · rw [h0]; split <;> omega
        · have : sp a.block = true := hsp (.cell a.block (a.off + 0)) (by unfold MemPlace.row; exact List.mem_map.2 ⟨0, List.mem_range.2 (by omega), rfl⟩)
          rw [this]
          simpa using hz
      exact shut_ints 0 Tryz.underlying22 Tryz.underlying3 Tryz.cellsInt (Nat.zero_le _) hl hm hsz (fun i hi => (k.cell (p := a.add i) (World.block_lt_of_cell? _ _ (hcell i hi)) (fun h => h)).trans (hcell i hi)) hwz
end Go.Proofs.YtnbfddjaonlmaaaGreatDoor
