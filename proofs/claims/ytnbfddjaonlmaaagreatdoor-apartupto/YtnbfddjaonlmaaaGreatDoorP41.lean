/- Package trawl's Names; sameInts. known: a pattern and a text whose events are known. Apart: events in order and apart. What the four rows without the document's answer share: the tables of package utf8, the bound, what a call that keeps old memory leaves. -/
import Derived.Test.YtnbfddjaonlmaaaGreatDoorP40
import Derived.Test.YtnbfddjaonlmaaaGreatDoorRows
import Derived.WalkKit
import Derived.ProofKit
import Derived.OpenShut
import Derived.ShutString
import Derived.LaidMore
import Derived.Lay
import Derived.SevenTiedAt
import Derived.Stop.Joined
import Derived.Lib.SmallJoins
import Derived.Lib.LaidU8
import Derived.Deep.DeepHandedRow
set_option linter.unusedVariables false
set_option maxRecDepth 100000
namespace Go.Proofs.YtnbfddjaonlmaaaGreatDoor
open Go.RowKit Go.Maps

set_option maxHeartbeats 8000000 in
theorem names_rd (p : ByteArray) (w : World) (hp : p.size ≤ maxLen) : Calls Tryz.prog 19 #[.string p] w fun e w' => Kept Nil w w' ∧ ((patE p ≠ 0 ∧ e = .returned (.tuple #[.slice none 0 0, .int .i64 (patE p)])) ∨ (patE p = 0 ∧ patG p ≤ 300 ∧ ∃ lb, e = .returned (.tuple #[.slice (some ⟨lb, 0, none⟩) (patG p) (patG p), .int .i64 0]))) := by
  by_cases hl : 300 < p.size
  · have e1 : patE p = 1 := if_pos hl
    have F := hid (read_long p w hl hp)
    have HE := hid e1
    clear e1
    go_enter Tryz.func19, Tryz.ntmps19
    go_wp2_with fail
    refine (F.out).mono ?_
    rintro e w1 ⟨rfl, k1⟩
    have K1 := hid k1
    clear k1 F
    simp only [patVal, patCells]
    go_wp2_with fail
    go_ret2
    refine ⟨?_, Or.inl ⟨by rw [HE.out]; decide, by rw [HE.out]; rfl⟩⟩
    exact K1.out.alloc _
  · have hl' : p.size ≤ 300 := by omega
    have F := hid (read_short p w hl')
    go_enter Tryz.func19, Tryz.ntmps19
    go_wp2_with fail
    refine (F.out).mono ?_
    rintro e w1 ⟨g, q, x, y, st, hrs, hps, rfl, k1, hst, hok⟩
    obtain ⟨a1, a2, a3⟩ := whole_is hrs hps
    rw [a1] at hst hok
    rw [a2, a3] at hok
    have hpe : (pick (finFlt g p)).1 = patE p := by unfold patE; rw [if_neg hl, a3]
    have hpe2 : (pick (finFlt (rgOf p) p)).1 = patE p := by unfold patE; rw [if_neg hl]
    rw [hpe]
    rw [hpe2] at hok
    clear hpe hpe2 a1 a2 a3 hrs hps
    generalize (pick (finFlt g p)).2 = pl
    have K1 := hid k1
    clear k1 F
    by_cases he : patE p = 0
    · obtain ⟨hx, hy, hR, hpt, huse⟩ := hok he
      have hnum : Nums st := by rw [hst]; exact pWhole_nums _ ⟨fun p hp => by simp [st0] at hp, by simp [st0]⟩
      have hG : st.groups = patG p := by rw [hst]; rfl
      have hgr : st.groups ≤ 300 := by have h1 := hR.groups; have h2 := hR.next; have h3 := hR.len; simp only at h1 h2; omega
      obtain ⟨D, hD, hN⟩ := hR.nm
      have HE := hid he
      rw [he, hx, hy]
      have HG := hid hG
      clear hok hst he hpt huse hR hx hy hG
      have F := hid (names_any (q := q) (st := st) (ownsMap_kept hD ((Kept.refl Nil _).alloc (.cells (patCells q st.groups (some g.bn)) 59)) (fun h => h)) hN hnum hgr)
      clear hD hN hnum
      simp only [patVal, patCells] at F ⊢
      go_wp2_with fail
      refine (F.out).mono ?_
      rintro e w2 ⟨lb, rfl, hlb, hB, hk2⟩
      have FIN : Hid (Kept Nil w w2) := (K1.out.alloc _).trans hk2
      clear hB hk2 F
      go_wp2_with fail
      go_ret2
      have hg := HG.out
      exact ⟨FIN.out, Or.inr ⟨HE.out, by omega, lb, by rw [← hg]; rfl⟩⟩
    · obtain ⟨pe, HPE⟩ : ∃ pe, Hid (patE p = pe) := ⟨_, (rfl : _ = _)⟩
      rw [HPE.out] at he ⊢
      have hne : (pe != 0) = true := by simpa using he
      have HE := hid he
      simp only [patVal, patCells]
      clear hok he
      go_wp2_with fail
      go_ret2
      exact ⟨K1.out.alloc _, Or.inl ⟨by rw [HPE.out]; exact HE.out, by rw [HPE.out]; rfl⟩⟩
theorem ints_cell {w : World} {g : Nat} {xs : List Int} (h : Blk w g (intL xs).toArray 3) : ∀ i, i < xs.length → w.cell? ⟨g, i, none⟩ = some (.int .i64 (xs.getD i 0)) := fun i hi => by
  have := h.cell i
  rw [this]
  simp [intL, hi]
theorem take_succ_eq {xs ys : List Int} {j : Nat} (h : xs.take j = ys.take j) (h1 : j < xs.length) (h2 : j < ys.length) (e : xs.getD j 0 = ys.getD j 0) : xs.take (j + 1) = ys.take (j + 1) := by
  simp only [List.getD_eq_getElem?_getD, List.getElem?_eq_getElem h1, List.getElem?_eq_getElem h2, Option.getD_some] at e
  rw [List.take_add_one, List.take_add_one, h, List.getElem?_eq_getElem h1, List.getElem?_eq_getElem h2, e]

set_option maxHeartbeats 2000000 in
theorem sameInts_rd {w : World} {ga gb ca cb n : Nat} {xs ys : List Int} (ha : Blk w ga (intL xs).toArray 3) (hb : Blk w gb (intL ys).toArray 3) (hx : xs.length = n) (hy : ys.length = n) (hn : n ≤ 1000000) :
    Calls Tryz.prog 17 #[.slice (some ⟨ga, 0, none⟩) n ca, .slice (some ⟨gb, 0, none⟩) n cb] w fun e w' => e = .returned (.bool (decide (xs = ys))) ∧ Kept Nil w w' := by
  have HA := hid ha
  have HB := hid hb
  have HX := hid hx
  have HY := hid hy
  clear ha hb hx hy
  go_enter Tryz.func17, Tryz.ntmps17
  go_wp2_with fail
  go_loopg [5] n (fun kk i wr => ∃ j : Nat, i = .int .i64 j ∧ j ≤ n ∧ kk = n - j ∧ Hid (xs.take j = ys.take j) ∧ Hid (Kept Nil w wr))
  case atStart => exact ⟨0, rfl, Nat.zero_le _, rfl, rfl, Kept.refl _ _⟩
  case round =>
    obtain ⟨j, rfl, hj, rfl, HT, K⟩ := hrel
    by_cases hlt : j < n
    · have d1 : wr.cell? ⟨ga, j, none⟩ = some (.int .i64 (xs.getD j 0)) := ints_cell (HA.out.kept K.out (fun h => h)) j (by rw [HX.out]; exact hlt)
      have d2 : wr.cell? ⟨gb, j, none⟩ = some (.int .i64 (ys.getD j 0)) := ints_cell (HB.out.kept K.out (fun h => h)) j (by rw [HY.out]; exact hlt)
      obtain ⟨x, HXx⟩ : ∃ x, Hid (xs.getD j 0 = x) := ⟨_, (rfl : _ = _)⟩
      obtain ⟨y, HYy⟩ : ∃ y, Hid (ys.getD j 0 = y) := ⟨_, (rfl : _ = _)⟩
      rw [HXx.out] at d1
      rw [HYy.out] at d2
      by_cases e : x = y
      · subst e
        go_wp2_with fail
        go_big_quiet (fail)
        go_wp2_with fail
        go_roundg (n - (j + 1))
        case measure => omega
        case rel => exact ⟨j + 1, by simp, by omega, rfl, take_succ_eq HT.out (by rw [HX.out]; exact hlt) (by rw [HY.out]; exact hlt) (HXx.out.trans HYy.out.symm), K.out.drewN _⟩
      · have hne : (x != y) = true := by simpa using e
        have HE := hid e
        clear e
        go_wp2_with fail
        go_big_quiet (fail)
        go_wp2_with fail
        go_ret
        exact ⟨by rw [decide_eq_false]; (try rfl); rintro rfl; exact HE.out (HXx.out.symm.trans HYy.out), K.out.drewN _⟩
    · have hjn : j = n := by omega
      subst hjn
      go_wp2_with fail
      go_ret
      have h1 := HT.out
      rw [List.take_of_length_le (by rw [HX.out]; exact Nat.le_refl _), List.take_of_length_le (by rw [HY.out]; exact Nat.le_refl _)] at h1
      exact ⟨by rw [decide_eq_true h1] <;> rfl, K.out⟩

def knP : ByteArray := ⟨#[40, 97, 124, 120, 41, 98, 42]⟩
def knS : ByteArray := ⟨#[99, 97, 98, 98, 45, 120]⟩
theorem kn_e : patE knP = 0 := by kernel_rfl
theorem kn_g : patG knP = 1 := by kernel_rfl
theorem kn_f : findE knP knS = [⟨1, 4, [1, 2]⟩, ⟨5, 6, [5, 6]⟩] := by kernel_rfl
theorem kn_b : bd knS 1 = 1 ∧ bd knS 4 = 4 ∧ bd knS 5 = 5 ∧ bd knS 6 = 6 := by refine ⟨?_, ?_, ?_, ?_⟩ <;> kernel_rfl
theorem kn_x : knS.extract 1 4 = ⟨#[97, 98, 98]⟩ ∧ knS.extract 5 6 = ⟨#[120]⟩ := by refine ⟨?_, ?_⟩ <;> kernel_rfl
theorem evF_get (s : ByteArray) (N2 : Nat) : ∀ (l : List (Ev × Nat)) (i : Nat) (h : i < l.length) (j : Nat) (hj : j < 4), (evF s N2 l)[i * 4 + j]? = (evC s N2 l[i].1 l[i].2)[j]?
  | [], i, h, _, _ => by simp at h
  | p :: l, 0, h, j, hj => by
    show (evC s N2 p.1 p.2 ++ evF s N2 l)[0 * 4 + j]? = _
    rw [List.getElem?_append_left (by show _ < 4; omega), show 0 * 4 + j = j by omega]
    rfl
  | p :: l, i + 1, h, j, hj => by
    show (evC s N2 p.1 p.2 ++ evF s N2 l)[(i + 1) * 4 + j]? = _
    rw [List.getElem?_append_right (by show 4 ≤ _; omega), show (i + 1) * 4 + j - (evC s N2 p.1 p.2).length = i * 4 + j by show (i + 1) * 4 + j - 4 = _; omega]
    exact evF_get s N2 l i (by simpa using h) j hj
/-- events in memory: where each one's cells stand -/
theorem EvsAt.get {w : World} {base : Nat} {v : Value} {s : ByteArray} {N2 : Nat} {l : List (Ev × Nat)} (h : EvsAt w base v s N2 l) (hne : l ≠ []) : ∃ g c, v = .slice (some ⟨g, 0, none⟩) l.length c ∧ base ≤ g ∧ g < w.heap.size ∧ l.length ≤ c ∧ ∀ i, (hi : i < l.length) → w.cell? ⟨g, i * 4, none⟩ = some (.int .i64 (bd s l[i].1.a : Int)) ∧ w.cell? ⟨g, i * 4 + 1, none⟩ = some (.int .i64 (bd s l[i].1.b : Int)) ∧ w.cell? ⟨g, i * 4 + 2, none⟩ = some (.slice (some ⟨l[i].2, 0, none⟩) N2 N2) ∧ w.cell? ⟨g, i * 4 + 3, none⟩ = some (.string (s.extract (bd s l[i].1.a) (bd s l[i].1.b))) := by
  obtain ⟨hx, h1⟩ := h.row
  rcases h1 with ⟨_, h0⟩ | ⟨g, cap, cur, rfl, a1, a2, a3, a4, a5, a6⟩
  · exact absurd (List.length_eq_zero_iff.1 h0) hne
  · refine ⟨g, cap, rfl, a1, (Array.getElem?_eq_some_iff.1 a2).1, (by omega), fun i hi => ?_⟩
    have key : ∀ j, j < 4 → w.cell? ⟨g, i * 4 + j, none⟩ = (evC s N2 l[i].1 l[i].2)[j]? := fun j hj => by
      rw [← evF_get s N2 l i hi j hj, ← a6, List.getElem?_take_of_lt (by omega)]
      simp only [World.cell?, a2]
      simp
    exact ⟨key 0 (by omega), key 1 (by omega), key 2 (by omega), key 3 (by omega)⟩
theorem two_of {l : List (Ev × Nat)} {a b : Ev} (h : l.map (·.1) = [a, b]) : ∃ x y, l = [(a, x), (b, y)] := by
  match l, h with
  | [(p, x), (q, y)], h => simp at h; obtain ⟨rfl, rfl⟩ := h; exact ⟨x, y, rfl⟩

/-- the two events of known -/
structure Kn8 (w : World) (g x y : Nat) : Prop where
  lt : g < w.heap.size
  c0 : w.cell? ⟨g, 0, none⟩ = some (.int .i64 1)
  c1 : w.cell? ⟨g, 1, none⟩ = some (.int .i64 4)
  c2 : w.cell? ⟨g, 2, none⟩ = some (.slice (some ⟨x, 0, none⟩) 2 2)
  c3 : w.cell? ⟨g, 3, none⟩ = some (.string ⟨#[97, 98, 98]⟩)
  d0 : w.cell? ⟨g, 4, none⟩ = some (.int .i64 5)
  d1 : w.cell? ⟨g, 5, none⟩ = some (.int .i64 6)
  d2 : w.cell? ⟨g, 6, none⟩ = some (.slice (some ⟨y, 0, none⟩) 2 2)
  d3 : w.cell? ⟨g, 7, none⟩ = some (.string ⟨#[120]⟩)
theorem Kn8.kept {w w' : World} {g x y : Nat} (h : Kn8 w g x y) (k : Kept Nil w w') : Kn8 w' g x y := by
  have kc : ∀ i, w'.cell? ⟨g, i, none⟩ = w.cell? ⟨g, i, none⟩ := fun i => k.cell (p := ⟨g, i, none⟩) h.lt (fun h => h)
  exact ⟨Nat.lt_of_lt_of_le h.lt k.size, (kc _).trans h.c0, (kc _).trans h.c1, (kc _).trans h.c2, (kc _).trans h.c3, (kc _).trans h.d0, (kc _).trans h.d1, (kc _).trans h.d2, (kc _).trans h.d3⟩

set_option maxHeartbeats 8000000 in
theorem known_rd (w : World) (hT : Tabs w) : Calls Tryz.prog 18 #[] w fun e w' => e = .returned (.bool true) ∧ Kept Nil w w' := by
  have F := hid (find_rd knP knS w (by decide) (by decide) hT)
  clear hT
  go_enter Tryz.func18, Tryz.ntmps18
  go_wp2_with fail
  refine (F.out).mono ?_
  rintro e w1 ⟨k1, h⟩
  rw [kn_e, kn_g, kn_f] at h
  rcases h with ⟨h, _⟩ | ⟨_, v, l, rfl, hE, hl⟩
  · exact absurd rfl h
  obtain ⟨x, y, rfl⟩ := two_of hl
  obtain ⟨g, c, rfl, hg1, hg2, hc, hget⟩ := hE.get (by simp)
  obtain ⟨b1, b4, b5, b6⟩ := kn_b
  have g0 := hget 0 (by simp)
  have g1 := hget 1 (by simp)
  simp only [List.getElem_cons_zero, List.getElem_cons_succ, b1, b4, b5, b6, kn_x.1, kn_x.2] at g0 g1
  obtain ⟨c0, c1, c2, c3⟩ := g0
  obtain ⟨d0, d1, d2, d3⟩ := g1
  have G0 := hid (hE.grp _ (List.mem_cons_self)).2
  have G1 := hid (hE.grp _ (List.mem_cons_of_mem _ (List.mem_cons_self))).2
  have K1 := hid k1
  have N8 : Hid (Kn8 w1 g x y) := ⟨hg2, c0, c1, c2, c3, d0, d1, d2, d3⟩
  clear hE hl b1 b4 b5 b6 F k1 hget d0 d1 d2 d3 c0 c1 c3 hg1 hg2
  simp only [List.length_cons, List.length_nil, Nat.zero_add, Nat.reduceAdd, Nat.reduceMul] at *
  have KA : Hid (Kept Nil w1 (w1.alloc (.cells #[.int .i64 1, .int .i64 2] 3))) := (Kept.refl Nil w1).alloc _
  have F1 := hid (sameInts_rd (ca := 2) (cb := 2) (n := 2) (xs := [1, 2]) (ys := [1, 2]) (G0.out.kept KA.out (fun h => h)) (Blk.new w1 #[.int .i64 1, .int .i64 2] 3) rfl rfl (by decide))
  go_wp2_with fail
  refine (F1.out).mono ?_
  rintro e w2 ⟨rfl, k2⟩
  have K2 : Hid (Kept Nil w1 w2) := KA.out.trans k2
  clear KA F1 k2 c2
  have c2 := (N8.out.kept K2.out).d2
  have KB : Hid (Kept Nil w2 (w2.alloc (.cells #[.int .i64 5, .int .i64 6] 3))) := (Kept.refl Nil w2).alloc _
  have F1 := hid (sameInts_rd (ca := 2) (cb := 2) (n := 2) (xs := [5, 6]) (ys := [5, 6]) (G1.out.kept (K2.out.trans KB.out) (fun h => h)) (Blk.new w2 #[.int .i64 5, .int .i64 6] 3) rfl rfl (by decide))
  go_wp2_with fail
  refine (F1.out).mono ?_
  rintro e w3 ⟨rfl, k3⟩
  have K3 : Hid (Kept Nil w1 w3) := K2.out.trans (KB.out.trans k3)
  clear KB F1 k3 c2
  obtain ⟨_, c0, c1, c2, c3, d0, d1, d2, d3⟩ := N8.out.kept K3.out
  go_wp2_with fail
  go_ret
  exact ⟨rfl, K1.out.trans K3.out⟩
set_option maxRecDepth 100000

theorem Apart.next {T : Nat → Got} {n : Nat} : ∀ {l : List Ev} {lo : Nat} {told : Option Nat}, Apart T n lo told l → ∀ k, (h : k + 1 < l.length) → l[k].b ≤ l[k + 1].a ∧ l[k].b ≠ l[k + 1].b
  | [], _, _, _, k, hk => by simp at hk
  | [d], _, _, _, k, hk => by simp at hk
  | d :: e :: es, lo, told, h, 0, hk => ⟨h.2.2.2.2.2.1, fun hx => h.2.2.2.2.2.2.2.2.1 (congrArg some hx)⟩
  | d :: e :: es, lo, told, h, k + 1, hk => Apart.next (l := e :: es) h.2.2.2.2.2 k (by simpa using hk)

/-- events in memory, in order and apart -/
structure EvRow (w : World) (g n G : Nat) (s : ByteArray) (A B GB : Nat → Nat) (GS : Nat → List Int) : Prop where
  lt : g < w.heap.size
  c0 : ∀ k, k < n → w.cell? ⟨g, k * 4, none⟩ = some (.int .i64 (A k : Int))
  c1 : ∀ k, k < n → w.cell? ⟨g, k * 4 + 1, none⟩ = some (.int .i64 (B k : Int))
  c2 : ∀ k, k < n → w.cell? ⟨g, k * 4 + 2, none⟩ = some (.slice (some ⟨GB k, 0, none⟩) (2 * G) (2 * G))
  c3 : ∀ k, k < n → w.cell? ⟨g, k * 4 + 3, none⟩ = some (.string (s.extract (A k) (B k)))
  ab : ∀ k, k < n → A k ≤ B k ∧ B k ≤ s.size
  gs : ∀ k, k < n → (GS k).length = 2 * G ∧ ∀ q, q < G → FineG (A k) (B k) (GS k) q
  gb : ∀ k, k < n → Blk w (GB k) (intL (GS k)).toArray 3
  nx : ∀ k, k + 1 < n → B k ≤ A (k + 1) ∧ B k ≠ B (k + 1)
theorem EvRow.kept {w w' : World} {g n G : Nat} {s : ByteArray} {A B GB : Nat → Nat} {GS : Nat → List Int} (h : EvRow w g n G s A B GB GS) (k : Kept Nil w w') : EvRow w' g n G s A B GB GS := by
  have kc : ∀ i, w'.cell? ⟨g, i, none⟩ = w.cell? ⟨g, i, none⟩ := fun i => k.cell (p := ⟨g, i, none⟩) h.lt (fun h => h)
  exact ⟨Nat.lt_of_lt_of_le h.lt k.size, fun i hi => (kc _).trans (h.c0 i hi), fun i hi => (kc _).trans (h.c1 i hi), fun i hi => (kc _).trans (h.c2 i hi), fun i hi => (kc _).trans (h.c3 i hi), h.ab, h.gs, fun i hi => (h.gb i hi).kept k (fun h => h), h.nx⟩
theorem EvsAt.evRow {w : World} {base G : Nat} {v : Value} {s : ByteArray} {C : CT} {l : List (Ev × Nat)} (h : EvsAt w base v s (2 * G) l) (hne : l ≠ []) (hC : C.gok G) (hl : l.map (·.1) = evsFrom (tryAt C G (txOf s)) (runesOf s).length 0 none) :
    ∃ g c A B GB GS, v = .slice (some ⟨g, 0, none⟩) l.length c ∧ EvRow w g l.length G s A B GB GS := by
  obtain ⟨g, c, rfl, h1, h2, h3, h4⟩ := h.get hne
  have hA := evsFrom_apart (tryAt_fwd hC s)
  rw [← hl] at hA
  have hin : ∀ k, (hk : k < l.length) → l[k].1.a ≤ l[k].1.b ∧ l[k].1.b ≤ (runesOf s).length ∧ tryAt C G (txOf s) l[k].1.a = some (l[k].1.b, l[k].1.gs) := fun k hk => hA.mem l[k].1 (List.mem_map_of_mem (List.getElem_mem hk))
  have gd : ∀ k, (hk : k < l.length) → l.getD k (⟨0, 0, []⟩, 0) = l[k] := fun k hk => by simp [List.getD_eq_getElem?_getD, List.getElem?_eq_getElem hk]
  refine ⟨g, c, fun k => bd s (l.getD k (⟨0, 0, []⟩, 0)).1.a, fun k => bd s (l.getD k (⟨0, 0, []⟩, 0)).1.b, fun k => (l.getD k (⟨0, 0, []⟩, 0)).2, fun k => (l.getD k (⟨0, 0, []⟩, 0)).1.gs, rfl, ⟨h2, ?_, ?_, ?_, ?_, ?_, ?_, ?_, ?_⟩⟩
  · intro k hk; simp only [gd k hk]; exact (h4 k hk).1
  · intro k hk; simp only [gd k hk]; exact (h4 k hk).2.1
  · intro k hk; simp only [gd k hk]; exact (h4 k hk).2.2.1
  · intro k hk; simp only [gd k hk]; exact (h4 k hk).2.2.2
  · intro k hk; simp only [gd k hk]; exact ⟨bd_mono s (hin k hk).1, bd_le s _⟩
  · intro k hk; simp only [gd k hk]
    have := tryAt_fine hC s (Nat.le_trans (hin k hk).1 (hin k hk).2.1) (hin k hk).2.2
    exact ⟨this.2.2.1, this.2.2.2⟩
  · intro k hk; simp only [gd k hk]; exact (h.grp _ (List.getElem_mem hk)).2
  · intro k hk
    simp only [gd k (by omega), gd (k + 1) hk]
    have hn := hA.next k (by simpa using hk)
    simp only [List.getElem_map] at hn
    refine ⟨bd_mono s hn.1, fun hx => hn.2 (bd_inj (hin k (by omega)).2.1 (hin (k + 1) hk).2.1 hx)⟩

theorem EvRow.few {w : World} {g n G : Nat} {s : ByteArray} {A B GB : Nat → Nat} {GS : Nat → List Int} (h : EvRow w g n G s A B GB GS) : n ≤ s.size + 1 := by
  have key : ∀ k, k < n → k ≤ B k := by
    intro k
    induction k with
    | zero => intro _; exact Nat.zero_le _
    | succ k ih =>
      intro hk
      have h1 := ih (by omega)
      have h2 := h.nx k hk
      have h3 := h.ab (k + 1) hk
      omega
  by_cases h0 : n = 0
  · omega
  · have h1 := key (n - 1) (by omega)
    have h2 := h.ab (n - 1) (by omega)
    omega
/-- what the groups say of a group's two places -/
theorem fine_or {a b : Nat} {gs : List Int} {q : Nat} (h : FineG a b gs q) : (gs.getD (2 * q) (-1) = -1 ∧ gs.getD (2 * q + 1) (-1) = -1) ∨ ((a : Int) ≤ gs.getD (2 * q) (-1) ∧ gs.getD (2 * q) (-1) ≤ gs.getD (2 * q + 1) (-1) ∧ gs.getD (2 * q + 1) (-1) ≤ (b : Int)) := h

set_option maxHeartbeats 16000000 in
theorem apart_walk (p s : ByteArray) (w : World) (hp : p.size ≤ maxLen) (hs : s.size ≤ 10000000) (hT : Tabs w) : Calls Tryz.prog 6 #[.string p, .string s] w fun e w' => e = .returned (.bool true) ∧ Kept Nil w w' := by
  have HT := hid hT
  have HP := hid hp
  have F := hid (known_rd w hT)
  clear hT hp
  go_enter Tryz.func6, Tryz.ntmps6
  go_wp2_with fail
  refine (F.out).mono ?_
  rintro e w1 ⟨rfl, k1⟩
  have K1 := hid k1
  clear k1 F
  have F := hid (find_rd p s w1 HP.out hs (HT.out.keptN K1.out))
  go_wp2_with fail
  refine (F.out).mono ?_
  rintro e w2 ⟨k2, h⟩
  have K2 := hid k2
  clear k2 F
  have F := hid (names_rd p w2 HP.out)
  rcases h with ⟨h0, rfl⟩ | ⟨h0, v, l, rfl, hE, hl⟩
  · obtain ⟨pe, HPE⟩ : ∃ pe, Hid (patE p = pe) := ⟨_, (rfl : _ = _)⟩
    rw [HPE.out] at h0 ⊢
    have hb : (pe == 0) = false := by simpa using h0
    have H0 := hid h0
    clear h0
    go_wp2_with fail
    refine (F.out).mono ?_
    rintro e w3 ⟨k3, h⟩
    rcases h with ⟨_, rfl⟩ | ⟨h0, _⟩
    · rw [HPE.out]
      have K3 : Hid (Kept Nil w w3) := (K1.out.trans K2.out).trans k3
      clear F k3
      go_wp2_with fail
      go_loopg [10, 11] 0 (fun kk i0 i wr => kk = 0 ∧ i = .int .i64 0 ∧ wr = w3)
      case atStart => exact ⟨rfl, rfl, rfl⟩
      case round =>
        obtain ⟨rfl, rfl, rfl⟩ := hrel
        go_wp2_with fail
        go_ret
        exact ⟨rfl, K3.out⟩
    · exact absurd (HPE.out.symm.trans h0) H0.out
  · have hl3 : p.size ≤ 300 := by
      by_cases hx : 300 < p.size
      · have e1 : patE p = 1 := if_pos hx
        rw [e1] at h0
        cases h0
      · omega
    obtain ⟨c1, c2, c3, c4⟩ := patC_ok hl3 h0
    have H0 := hid h0
    clear c1 c2 c4 hl3 h0
    by_cases hne : l = []
    · subst hne
      obtain ⟨ao, cv, rfl⟩ := ownsRow_slice hE.row
      clear hE hl c3
      simp only [List.length_nil] at *
      go_wp2_with fail
      refine (F.out).mono ?_
      rintro e w3 ⟨k3, h⟩
      rcases h with ⟨h0, rfl⟩ | ⟨_, _, lb, rfl⟩
      · exact absurd H0.out h0
      have K3 : Hid (Kept Nil w w3) := (K1.out.trans K2.out).trans k3
      clear F k3
      go_wp2_with fail
      go_loopg [10, 11] 0 (fun kk i0 i wr => kk = 0 ∧ i = .int .i64 0 ∧ wr = w3)
      case atStart => exact ⟨rfl, rfl, rfl⟩
      case round =>
        obtain ⟨rfl, rfl, rfl⟩ := hrel
        go_wp2_with fail
        go_ret
        exact ⟨rfl, K3.out⟩
    · obtain ⟨g, cv, A, B, GB, GS, rfl, hR⟩ := hE.evRow hne c3 hl
      have hn1 : l.length ≤ 100000000 := by have := hR.few; omega
      generalize l.length = n at *
      have HR := hid hR
      clear hE hl hR hne c3
      go_wp2_with fail
      refine (F.out).mono ?_
      rintro e w3 ⟨k3, h⟩
      rcases h with ⟨h0, rfl⟩ | ⟨_, hG, lb, rfl⟩
      · exact absurd H0.out h0
      have HR3 : Hid (EvRow w3 g n (patG p) s A B GB GS) := HR.out.kept k3
      have K3 : Hid (Kept Nil w w3) := (K1.out.trans K2.out).trans k3
      generalize patG p = G at *
      clear F k3 HR K1 K2 HP
      go_wp2_with fail
      go_loopg [10, 11] n (fun kk at0 i wr => ∃ k a0 : Nat, i = .int .i64 k ∧ at0 = .int .i64 a0 ∧ k ≤ n ∧ kk = n - k ∧ a0 ≤ s.size ∧ (∀ m, k = m + 1 → a0 = B m) ∧ (k = 0 → a0 = 0) ∧ Hid (Kept Nil w3 wr))
      case atStart => exact ⟨0, 0, rfl, rfl, Nat.zero_le _, rfl, Nat.zero_le _, fun m h => by omega, fun _ => rfl, Kept.refl _ _⟩
      case round =>
        obtain ⟨k, a0, rfl, rfl, hk, rfl, ha0, ha1, ha2, K⟩ := hrel
        by_cases hlt : k < n
        · obtain ⟨_, q0, q1, q2, q3, qab, qgs, qgb, qnx⟩ := HR3.out.kept K.out
          have d0 := q0 k hlt
          have d1 := q1 k hlt
          have d2 := q2 k hlt
          have d3 := q3 k hlt
          have hab := qab k hlt
          have hgs := hid (qgs k hlt)
          have hgb := hid (qgb k hlt)
          have hle : a0 ≤ A k := by
            cases k with
            | zero => rw [ha2 rfl]; exact Nat.zero_le _
            | succ m => rw [ha1 m rfl]; exact (qnx m hlt).1
          have hpre : ∀ m, k = m + 1 → wr.cell? ⟨g, m * 4 + 1, none⟩ = some (.int .i64 (B m : Int)) ∧ B m ≠ B k := fun m e => by subst e; exact ⟨q1 m (by omega), (qnx m hlt).2⟩
          have HPRE := hid hpre
          clear q0 q1 q2 q3 qab qgs qgb qnx hpre ha1 ha2
          generalize A k = a at *
          obtain ⟨b, HBK⟩ : ∃ b, Hid (B k = b) := ⟨_, (rfl : _ = _)⟩
          rw [HBK.out] at d1 d3 hgs hab HPRE
          generalize GB k = gb at *
          generalize GS k = gs at *
          obtain ⟨hab1, hab2⟩ := hab
          have BE : Hid (Blk (wr.alloc (.cells #[.int .i64 (a : Int), .int .i64 (b : Int), .slice (some ⟨gb, 0, none⟩) (2 * G) (2 * G), .string (s.extract a b)] 45)) wr.heap.size #[.int .i64 (a : Int), .int .i64 (b : Int), .slice (some ⟨gb, 0, none⟩) (2 * G) (2 * G), .string (s.extract a b)] 45) := Blk.new wr _ _
          have KE : Hid (Kept Nil wr (wr.alloc (.cells #[.int .i64 (a : Int), .int .i64 (b : Int), .slice (some ⟨gb, 0, none⟩) (2 * G) (2 * G), .string (s.extract a b)] 45))) := (Kept.refl Nil wr).alloc _
          go_wp2_with fail
          have hebl : wr.heap.size = wr.heap.size := rfl
          generalize (wr.alloc (.cells #[.int .i64 (a : Int), .int .i64 (b : Int), .slice (some ⟨gb, 0, none⟩) (2 * G) (2 * G), .string (s.extract a b)] 45)) = W at *
          have e0 := BE.out.cell 0
          have e1 := BE.out.cell 1
          have e2 := BE.out.cell 2
          have e3 := BE.out.cell 3
          have hgW := hid (hgb.out.kept KE.out (fun h => h))
          have KW : Hid (Kept Nil w3 W) := K.out.trans KE.out
          have HPW : Hid (∀ m, k = m + 1 → W.cell? ⟨g, m * 4 + 1, none⟩ = some (.int .i64 (B m : Int)) ∧ B m ≠ b) := fun m e => ⟨(KE.out.cell (p := ⟨g, m * 4 + 1, none⟩) (HR3.out.kept K.out).lt (fun h => h)).trans (HPRE.out m e).1, (HPRE.out m e).2⟩
          clear d0 d1 d2 d3 HPRE hgb KE K BE
          generalize wr.heap.size = eb at *
          simp at e0 e1 e2 e3
          have z1 : ¬ ((a : Int) < (a0 : Int)) := by omega
          have z2 : ¬ ((b : Int) < (a : Int)) := by omega
          have z3 : ¬ ((s.size : Int) < (b : Int)) := by omega
          go_big_quiet (fail)
          go_wp2_with fail
          have KW1 : Hid (Kept Nil w3 (W.drewN nq)) := KW.out.drewN nq
          have hgW1 : Hid (Blk (W.drewN nq) gb (intL gs).toArray 3) := hgW.out
          have HPW1 : Hid (∀ m, k = m + 1 → (W.drewN nq).cell? ⟨g, m * 4 + 1, none⟩ = some (.int .i64 (B m : Int)) ∧ B m ≠ b) := HPW.out
          replace e0 : (W.drewN nq).cell? ⟨eb, 0, none⟩ = some (.int .i64 (a : Int)) := e0
          replace e1 : (W.drewN nq).cell? ⟨eb, 1, none⟩ = some (.int .i64 (b : Int)) := e1
          replace e2 : (W.drewN nq).cell? ⟨eb, 2, none⟩ = some (.slice (some ⟨gb, 0, none⟩) (2 * G) (2 * G)) := e2
          replace e3 : (W.drewN nq).cell? ⟨eb, 3, none⟩ = some (.string (s.extract a b)) := e3
          clear KW hgW HPW z1 z2 z3
          generalize W.drewN nq = W1 at *
          clear nq
          by_cases hk0 : k = 0
          have y1 : ¬ ((0 : Int) < (k : Int)) := by omega
          have y1n : ¬ (0 < k) := by omega
          clear hk0
          go_big_quiet (fail)
          rotate_left
          obtain ⟨m, hm⟩ : ∃ m, k = m + 1 := ⟨k - 1, by omega⟩
          have y1 : ((0 : Int) < (k : Int)) := by omega
          have y1n : 0 < k := by omega
          have y2 : (k : Int) - 1 = (m : Int) := by omega
          have y3 : m < n := by omega
          obtain ⟨f1, f2⟩ := HPW1.out m hm
          generalize B m = bm at *
          have f3 : ¬ (b = bm) := fun h => f2 h.symm
          have f4 : ¬ ((b : Int) = (bm : Int)) := by omega
          have f5 : ((b : Int) == (bm : Int)) = false := by simpa using f4
          clear hm f2
          go_big_quiet (fail)
          clear y2 y3 f1
          all_goals
            clear y1 y1n HPW1
            have KW2 : Hid (Kept Nil w3 (W1.drewN nq)) := KW1.out.drewN nq
            have hgW2 : Hid (Blk (W1.drewN nq) gb (intL gs).toArray 3) := hgW1.out
            replace e0 : (W1.drewN nq).cell? ⟨eb, 0, none⟩ = some (.int .i64 (a : Int)) := e0
            replace e1 : (W1.drewN nq).cell? ⟨eb, 1, none⟩ = some (.int .i64 (b : Int)) := e1
            replace e2 : (W1.drewN nq).cell? ⟨eb, 2, none⟩ = some (.slice (some ⟨gb, 0, none⟩) (2 * G) (2 * G)) := e2
            clear KW1 hgW1 e3
            generalize W1.drewN nq = W2 at *
            go_wp2_with fail
          all_goals
            go_loopg [13] G (fun kk i wi => ∃ q : Nat, i = .int .i64 q ∧ q ≤ G ∧ kk = G - q ∧ wi = W2)
            case atStart => exact ⟨0, rfl, Nat.zero_le _, rfl, rfl⟩
            case round =>
              obtain ⟨q, rfl, hq, rfl, rfl⟩ := hrel
              by_cases hql : q < G
              · have hlen := hgs.out.1
                have hf := fine_or (hgs.out.2 q hql)
                have i0 := ints_cell hgW2.out (2 * q) (by omega)
                have i1 := ints_cell hgW2.out (2 * q + 1) (by omega)
                have g0 : gs.getD (2 * q) 0 = gs.getD (2 * q) (-1) := by simp [List.getD_eq_getElem?_getD, show 2 * q < gs.length by omega]
                have g1 : gs.getD (2 * q + 1) 0 = gs.getD (2 * q + 1) (-1) := by simp [List.getD_eq_getElem?_getD, show 2 * q + 1 < gs.length by omega]
                rw [g0] at i0
                rw [g1] at i1
                clear g0 g1 hlen
                generalize gs.getD (2 * q) (-1) = ga at *
                generalize gs.getD (2 * q + 1) (-1) = gz at *
                rcases hf with ⟨rfl, rfl⟩ | ⟨h1, h2, h3⟩
                · go_wp2_with fail
                  go_roundg (G - (q + 1))
                  case measure => omega
                  case rel => exact ⟨q + 1, by go_num, by omega, rfl, rfl⟩
                · have j1 : ¬ (ga < (a : Int)) := by omega
                  have j2 : ¬ (gz < ga) := by omega
                  have j3 : ¬ ((b : Int) < gz) := by omega
                  have j4 : (ga != -1) = true := by simp; omega
                  clear h1 h2 h3
                  go_wp2_with fail
                  go_roundg (G - (q + 1))
                  case measure => omega
                  case rel => exact ⟨q + 1, by go_num, by omega, rfl, rfl⟩
              · have hqG : q = G := by omega
                subst hqG
                go_wp2_with fail
                go_roundg (n - (k + 1))
                case measure => omega
                case rel => exact ⟨k + 1, b, by go_num, rfl, by omega, rfl, by omega, fun m h => by rw [← HBK.out]; congr 1; omega, fun h => by omega, KW2.out⟩
        · have hkn : k = n := by omega
          subst hkn
          go_wp2_with fail
          go_ret
          exact ⟨rfl, K3.out.trans K.out⟩
end Go.Proofs.YtnbfddjaonlmaaaGreatDoor
namespace Go.Proofs.YtnbfddjaonlmaaaGreatDoor
open Go.ChangeShapes Go.WideShapes Go.ChangeAt Go.RowKit

/-- a call that leaves old memory as it was: what the statement asks of it, where the arguments lie in no memory -/
theorem post_nilK {H : Type} {enc : TypeId × Value → H} {P : Program} {f : Func} {s : ChangeSpec} {apart fresh handsOn again : Bool} {W W' : World} {args : Array Value} {v : Value} {ds gs : List (DataW H)}
    (hW : DataW.Whole enc P f.params.toList s.vars apart W args.toList ds gs [])
    (hres : ∀ (b : Nat) (sp : Nat → Bool) (hd : Bool), DataW.TrodAll enc P W' b sp hd f.resultTypes.toList (v.resultList f.resultTypes.size) (s.fn H (ds ++ gs)).results [])
    (hargs : ∀ sp : Nat → Bool, DataW.TrodAll enc P W' 0 sp true f.params.toList args.toList (s.fn H (ds ++ gs)).args [])
    (hvars : ∀ sp : Nat → Bool, DataW.TrodVars enc P W' sp s.vars (s.fn H (ds ++ gs)).vars [])
    (hk : Kept Nil W W')
    (hok : ∀ (j : Nat) (t : TypeId) (r : Value), f.resultTypes[j]? = some t → (v.resultList f.resultTypes.size)[j]? = some r → Value.okWide P W' .any 0 t r) :
    s.post enc P f apart fresh handsOn again W args v W' := by
  refine ⟨ds, gs, [], [], [], [], hW, hres _ _ _, hargs _, hvars _, (hk.below (Nat.le_refl _) (fun _ _ h => h)).frame _, fun _ => ?_⟩
  refine ⟨hok, _, _, [], ⟨[], [], Go.ChangeShapes.trodAll_append (hargs _) (hres _ _ _), hvars _, rfl, fun b off hp => ?_, fun _ => ?_⟩, fun p hp _ => ?_⟩
  · simp at hp
  · exact List.nodup_nil
  · simp at hp


theorem first_is : Lib.firstData = Rows.laid_unicode_utf8_first := by kernel_rfl
theorem accept_is : (Lib.acceptData : DataW Unit) = Rows.laid_unicode_utf8_acceptRanges := by kernel_rfl
/-- the two tables of package utf8, out of what the rows list -/
theorem tabs_laid {W : World} (hL : laidMetH Tryz.prog Rows.apartUptoRow.laid W) : Tabs W := by
  have hM : laidMet Tryz.prog Rows.apartUptoRow.laid W := by
    rw [← MakeChecks.laidMetH_plain _ _ _ (by kernel_rfl)]
    exact hL
  have h3 := Lib.laidMet.reads hM (n := "unicode/utf8.first") (d := Rows.laid_unicode_utf8_first) (.tail _ (.tail _ (.head _)))
  have h4 := Lib.laidMet.reads hM (n := "unicode/utf8.acceptRanges") (d := Rows.laid_unicode_utf8_acceptRanges) (.head _)
  rw [← first_is] at h3
  rw [← accept_is] at h4
  exact utf8Tabs_of_reads (ρ := Tryz.lays271_ren) { Tryz.lays271 with } ⟨by kernel_rfl, by kernel_rfl, by kernel_rfl, by kernel_rfl, by kernel_rfl, by kernel_rfl, by kernel_rfl⟩ h3 h4
theorem own : ownKnob Tryz.prog.godebug = none := by kernel_rfl
end Go.Proofs.YtnbfddjaonlmaaaGreatDoor
