/- The patterns of Worded: what the maker makes, and what is put together out of it. Package trawlkeep's same: the same events?. Package trawlkeep's runs: the rows of a text. Rows: of a class with + the rows of its letters, with {n,} those that are long enough. Package trawlkeep's cut, quoted, stands. Package trawlkeep's choice: the events of some words. -/
import Derived.Test.YtnbfddjaonlmaaaGreatDoorP42
import Derived.Test.YtnbfddjaonlmaaaGreatDoorP40
import Derived.Test.YtnbfddjaonlmaaaGreatDoorP41
set_option linter.unusedVariables false
set_option maxRecDepth 100000
namespace Go.Proofs.YtnbfddjaonlmaaaGreatDoor

/-- a pattern that was made with n pieces at most, that means F -/
structure Md (n : Nat) (u : List UInt8) (F : Mean) : Prop where
  sq : ∃ d, d ≤ u.length ∧ Sq d (1 + 3 * n) u F
  len : u.length ≤ 1 + 6 * n
  ev : ∀ x, Even (F x)
theorem size_single : PT.size single = 1 := by decide
theorem Md.leaf {n : Nat} {u : List UInt8} {sp : Spans} {nt : Bool} (h : AtomOk 0 (toI u) single (cLeaf sp false nt)) (hb : ∃ r v, u = r :: v ∧ r ∈ begL) (ha : ∀ b ∈ u, b.toNat < 128) (hl : u.length ≤ 1 + 6 * n) : ∃ F, Md n u F :=
  ⟨_, ⟨0, Nat.zero_le _, h.sq (F := fun x => _) ⟨by rw [size_single]; omega, by rw [size_single]; omega⟩ (fun x => sem_leaf x sp false nt) hb ha⟩, hl, fun x => Even.take x sp false nt⟩
theorem Md.a (n : Nat) : ∃ F, Md n [97] F := Md.leaf (AtomOk.plain (by decide) rfl rfl rfl rfl rfl rfl) ⟨97, [], rfl, by decide⟩ (by decide) (by simp)
theorem Md.b (n : Nat) : ∃ F, Md n [98] F := Md.leaf (AtomOk.plain (by decide) rfl rfl rfl rfl rfl rfl) ⟨98, [], rfl, by decide⟩ (by decide) (by simp)
theorem Md.ab (n : Nat) : ∃ F, Md (n + 1) [91, 97, 98, 93] F := Md.leaf AtomOk.ab ⟨91, _, rfl, by decide⟩ (by decide) (by simp; omega)
theorem Md.dot (n : Nat) : ∃ F, Md n [46] F := Md.leaf AtomOk.dot ⟨46, [], rfl, by decide⟩ (by decide) (by simp)
theorem Md.edge (n : Nat) : ∃ F, Md (n + 1) [92, 98] F :=
  ⟨_, ⟨0, Nat.zero_le _, (AtomOk.edge : AtomOk 0 (toI [92, 98]) single (cEdge 2)).sq (F := fun x => _) ⟨by rw [size_single]; omega, by rw [size_single]; omega⟩ (fun x => sem_edge x 2) ⟨92, _, rfl, by decide⟩ (by decide)⟩, by simp; omega, fun x => Even.stand x 2⟩
theorem Md.cat {n m : Nat} {u v : List UInt8} {F G : Mean} (h : Md n u F) (h' : Md m v G) : ∃ H, Md (n + m + 1) (u ++ v) H := by
  obtain ⟨⟨d, h1, h2⟩, h3, h4⟩ := h
  obtain ⟨⟨e, g1, g2⟩, g3, g4⟩ := h'
  refine ⟨fun x nx => F x (G x nx), ⟨⟨max d e, by simp; omega, ?_⟩, by simp; omega, fun x => (h4 x).comp (g4 x)⟩⟩
  exact ((h2.up (Nat.le_max_left d e) (Int.le_refl _)).append (g2.up (Nat.le_max_right d e) (Int.le_refl _))).up (Nat.le_refl _) (by omega)
theorem eL_len (u : List UInt8) : (eL u).length = u.length + 4 := by unfold eL; simp
theorem Md.bar {n m : Nat} {u v : List UInt8} {F G : Mean} (h : Md n u F) (h' : Md m v G) : ∃ H, Md (n + m + 1) (eL (u ++ ([124] ++ v))) H := by
  obtain ⟨⟨d, h1, h2⟩, h3, h4⟩ := h
  obtain ⟨⟨e, g1, g2⟩, g3, g4⟩ := h'
  refine ⟨fun x nx => forkP (F x nx) (G x nx), ⟨⟨max d e + 1, by rw [eL_len]; simp; omega, ?_⟩, by rw [eL_len]; simp; omega, fun x => (h4 x).fork (g4 x)⟩⟩
  exact ((h2.up (Nat.le_max_left d e) (Int.le_refl _)).br2 (g2.up (Nat.le_max_right d e) (Int.le_refl _))).up (Nat.le_refl _) (by omega)
theorem Md.star {n : Nat} {u : List UInt8} {F : Mean} (h : Md n u F) : ∃ H, Md (n + 1) (eL u ++ [42]) H := by
  obtain ⟨⟨d, h1, h2⟩, h3, h4⟩ := h
  refine ⟨fun x => timesP x (F x) 0 (-1) false, ⟨⟨d + 1, by rw [List.length_append, eL_len]; omega, ?_⟩, by rw [List.length_append, eL_len]; simp; omega, fun x => (h4 x).times x _ _ _⟩⟩
  exact (h2.brr (v := [42]) (RepOk.star false) (by decide) 1 rfl (by decide)).up (Nat.le_refl _) (by omega)
theorem Md.opt {n : Nat} {u : List UInt8} {F : Mean} (h : Md n u F) : ∃ H, Md (n + 1) (eL u ++ [63, 63]) H := by
  obtain ⟨⟨d, h1, h2⟩, h3, h4⟩ := h
  refine ⟨fun x => timesP x (F x) 0 1 true, ⟨⟨d + 1, by rw [List.length_append, eL_len]; omega, ?_⟩, by rw [List.length_append, eL_len]; simp; omega, fun x => (h4 x).times x _ _ _⟩⟩
  exact (h2.brr (v := [63, 63]) (RepOk.query true) (by decide) 1 rfl (by decide)).up (Nat.le_refl _) (by omega)
/-! ## in terms of one another -/
theorem Pat.of {p : ByteArray} {F G : Mean} (h : Pat p F) (e : ∀ x, F x = G x) : Pat p G := ⟨h.1, h.2.1, h.2.2.1, fun x => (h.2.2.2 x).trans (e x)⟩
/-- the two have no fault, no group and the same meaning -/
def Alk (p q : ByteArray) : Prop := ∃ F, Pat p F ∧ Pat q F
theorem fork_self (a : Cont) : forkC a a = a := by
  funext i gs
  unfold forkC
  cases h : a i gs <;> simp
theorem appL (s t : ByteArray) : (s ++ t).data.toList = s.data.toList ++ t.data.toList := by simp [ByteArray.data_append]
section
variable {n : Nat} {p e : ByteArray} {F : Mean}
set_option maxHeartbeats 1000000 in
theorem Md.worded (h : Md n p.data.toList F) (hn : n ≤ 8) (he : e.data.toList = eL p.data.toList) :
    Alk p e ∧ Alk p (p ++ ⟨#[124]⟩ ++ p) ∧ Alk p (e ++ ⟨#[123, 49, 125]⟩) ∧ Alk (e ++ e) (e ++ ⟨#[123, 50, 125]⟩) ∧ Alk (e ++ e ++ ⟨#[42]⟩) (e ++ ⟨#[43]⟩) ∧ Alk (e ++ ⟨#[63]⟩) (e ++ ⟨#[123, 48, 44, 49, 125]⟩) ∧
    Alk (e ++ e ++ e ++ ⟨#[42, 63]⟩) (e ++ ⟨#[123, 50, 44, 125, 63]⟩) ∧ Alk (e ++ ⟨#[123, 49, 44, 51, 125]⟩) (e ++ ⟨#[40, 63, 58]⟩ ++ e ++ e ++ ⟨#[63, 41, 63]⟩) := by
  obtain ⟨⟨d, h1, h2⟩, h3, h4⟩ := h
  have h25 : Sq d 25 p.data.toList F := h2.up (Nat.le_refl _) (by omega)
  clear h2 h4
  generalize hu : p.data.toList = u at *
  have hE : Sq (d + 1) 26 (eL u) F := h25.br
  have lE := eL_len u
  have brr : ∀ {v : List UInt8} {lo hi : Int} {lz : Bool}, RepOk (toI v) (tmP lo hi) (fun c => cTimes c lo hi lz) → (∀ b ∈ v, b.toNat < 128) → ∀ K, (if hi = -1 then lo + 1 else hi) = K → 0 ≤ K → K ≤ 3 → Sq (d + 1) 81 (eL u ++ v) (fun x => timesP x (F x) lo hi lz) := fun hv ha K h1 h2 h3 => (h25.brr hv ha K h1 h2).up (Nat.le_refl _) (by omega)
  have b1 : RepOk (toI [123, 49, 125]) (tmP 1 1) (fun c => cTimes c 1 1 false) := (BraceOk.one (a := 49) rfl).rep (by decide) false
  have b2 : RepOk (toI [123, 50, 125]) (tmP 2 2) (fun c => cTimes c 2 2 false) := (BraceOk.one (a := 50) rfl).rep (by decide) false
  have b3 : RepOk (toI [123, 48, 44, 49, 125]) (tmP 0 1) (fun c => cTimes c 0 1 false) := (BraceOk.two (a := 48) (b := 49) rfl rfl).rep (by decide) false
  have b4 : RepOk (toI [123, 50, 44, 125, 63]) (tmP 2 (-1)) (fun c => cTimes c 2 (-1) true) := (BraceOk.open (a := 50) rfl).rep (by decide) true
  have b5 : RepOk (toI [123, 49, 44, 51, 125]) (tmP 1 3) (fun c => cTimes c 1 3 false) := (BraceOk.two (a := 49) (b := 51) rfl rfl).rep (by decide) false
  have pP : Pat p F := h25.pat hu (by omega) (by omega) (by omega)
  refine ⟨⟨F, pP, hE.pat he (by omega) (by omega) (by omega)⟩, ⟨F, pP, ?_⟩, ⟨F, pP, ?_⟩, ⟨fun x nx => F x (F x nx), ?_, ?_⟩, ⟨fun x nx => F x (timesP x (F x) 0 (-1) false nx), ?_, ?_⟩, ⟨fun x => timesP x (F x) 0 1 false, ?_, ?_⟩, ⟨fun x nx => F x (F x (timesP x (F x) 0 (-1) true nx)), ?_, ?_⟩, ⟨fun x => timesP x (F x) 1 3 false, ?_, ?_⟩⟩
  · refine (h25.bar h25 (p := p ++ ⟨#[124]⟩ ++ p) (by simp [hu]) (by omega) h1 (by omega)).of (fun x => ?_)
    funext nx
    show forkP (F x nx) (F x nx) = _
    unfold forkP
    rw [fork_self, fork_self]
  · refine Pat.of ((brr b1 (by decide) 1 rfl (by decide) (by decide)).pat (p := e ++ ⟨#[123, 49, 125]⟩) (by simp [he]) (by simp; omega) (by simp; omega) (by omega)) (fun x => ?_)
    funext nx
    simp [timesP, iterP]
  · exact (hE.append hE).pat (p := e ++ e) (by simp [he]) (by simp; omega) (by simp; omega) (by omega)
  · refine Pat.of ((brr b2 (by decide) 2 rfl (by decide) (by decide)).pat (p := e ++ ⟨#[123, 50, 125]⟩) (by simp [he]) (by simp; omega) (by simp; omega) (by omega)) (fun x => ?_)
    funext nx
    simp [timesP, iterP]
  · exact (hE.append (brr (v := [42]) (RepOk.star false) (by decide) 1 rfl (by decide) (by decide))).pat (p := e ++ e ++ ⟨#[42]⟩) (by simp [he]) (by simp; omega) (by simp; omega) (by omega)
  · refine Pat.of ((brr (v := [43]) (RepOk.plus false) (by decide) 2 rfl (by decide) (by decide)).pat (p := e ++ ⟨#[43]⟩) (by simp [he]) (by simp; omega) (by simp; omega) (by omega)) (fun x => ?_)
    funext nx
    simp [timesP, iterP]
  · exact (brr (v := [63]) (RepOk.query false) (by decide) 1 rfl (by decide) (by decide)).pat (p := e ++ ⟨#[63]⟩) (by simp [he]) (by simp; omega) (by simp; omega) (by omega)
  · exact (brr b3 (by decide) 1 rfl (by decide) (by decide)).pat (p := e ++ ⟨#[123, 48, 44, 49, 125]⟩) (by simp [he]) (by simp; omega) (by simp; omega) (by omega)
  · exact (hE.append (hE.append (brr (v := [42, 63]) (RepOk.star true) (by decide) 1 rfl (by decide) (by decide)))).pat (p := e ++ e ++ e ++ ⟨#[42, 63]⟩) (by simp [he]) (by simp; omega) (by simp; omega) (by omega)
  · refine Pat.of ((brr b4 (by decide) 3 rfl (by decide) (by decide)).pat (p := e ++ ⟨#[123, 50, 44, 125, 63]⟩) (by simp [he]) (by simp; omega) (by simp; omega) (by omega)) (fun x => ?_)
    funext nx
    simp [timesP, iterP]
  · exact (brr b5 (by decide) 3 rfl (by decide) (by decide)).pat (p := e ++ ⟨#[123, 49, 44, 51, 125]⟩) (by simp [he]) (by simp; omega) (by simp; omega) (by omega)
  · have hI := hE.append (brr (v := [63]) (RepOk.query false) (by decide) 1 rfl (by decide) (by decide))
    have hO := hI.brr (v := [63]) (RepOk.query false) (by decide) 1 rfl (by decide)
    have hW := (hE.up (Nat.le_succ _) (Int.le_refl _)).append hO
    have hl : (eL u ++ (eL (eL u ++ (eL u ++ [63])) ++ [63])).length = 3 * u.length + 18 := by
      rw [List.length_append, List.length_append, eL_len (_ ++ _), List.length_append, List.length_append, lE]
      simp only [List.length_cons, List.length_nil]
      omega
    have hp : (e ++ ⟨#[40, 63, 58]⟩ ++ e ++ e ++ ⟨#[63, 41, 63]⟩ : ByteArray).data.toList = eL u ++ (eL (eL u ++ (eL u ++ [63])) ++ [63]) := by
      simp only [appL, he]
      unfold eL
      simp
    refine Pat.of (hW.pat hp (by rw [hl]; omega) (by rw [hl]; omega) (by omega)) (fun x => ?_)
    funext nx
    simp [timesP, iterP, optP]
theorem Md.group (h : Md n p.data.toList F) (hn : n ≤ 8) {q : ByteArray} (hq : q.data.toList = 40 :: (p.data.toList ++ [41])) (s : ByteArray) : p.size ≤ 300 ∧ q.size ≤ 300 ∧ patE p = 0 ∧ patE q = 0 ∧ patG p = 0 ∧ patG q = 1 ∧ findE q s = (findE p s).map fun e => (⟨e.a, e.b, [(txOf s).bound e.a, (txOf s).bound e.b]⟩ : Ev) := by
  obtain ⟨⟨d, h1, h2⟩, h3, h4⟩ := h
  have pP : Pat p F := h2.pat rfl (by omega) (by omega) (by omega)
  obtain ⟨a1, a2, a3, a4⟩ := h2.group hq (by omega) (by omega) (by omega)
  exact ⟨pP.1, a1, pP.2.1, a2, pP.2.2.1, a3, pP.grouped h4 a3 a4 s⟩
end
end Go.Proofs.YtnbfddjaonlmaaaGreatDoor
namespace Go.Proofs.YtnbfddjaonlmaaaGreatDoor
open Go.RowKit Go.Maps

/-- a row of numbers: none, or a block of its own -/
def IntsV (w : World) (v : Value) (xs : List Int) : Prop := (v = .slice none 0 0 ∧ xs = []) ∨ ∃ g c, v = .slice (some ⟨g, 0, none⟩) xs.length c ∧ Blk w g (intL xs).toArray 3
theorem IntsV.kept {w w' : World} {v : Value} {xs : List Int} (h : IntsV w v xs) (k : Kept Nil w w') : IntsV w' v xs := by
  rcases h with h | ⟨g, c, h1, h2⟩
  · exact Or.inl h
  · exact Or.inr ⟨g, c, h1, h2.kept k (fun h => h)⟩
set_option maxHeartbeats 2000000 in
theorem sameInts_dr {w : World} {ga gb ca cb n : Nat} {xs ys : List Int} (ha : Blk w ga (intL xs).toArray 3) (hb : Blk w gb (intL ys).toArray 3) (hx : xs.length = n) (hy : ys.length = n) (hn : n ≤ 1000000) :
    Calls Tryz.prog 17 #[.slice (some ⟨ga, 0, none⟩) n ca, .slice (some ⟨gb, 0, none⟩) n cb] w fun e w' => e = .returned (.bool (decide (xs = ys))) ∧ ∃ m, w' = w.drewN m := by
  have HA := hid ha
  have HB := hid hb
  have HX := hid hx
  have HY := hid hy
  clear ha hb hx hy
  go_enter Tryz.func17, Tryz.ntmps17
  go_wp2_with fail
  go_loopg [5] n (fun kk i wr => ∃ j : Nat, i = .int .i64 j ∧ j ≤ n ∧ kk = n - j ∧ Hid (xs.take j = ys.take j) ∧ ∃ m, wr = w.drewN m)
  case atStart => exact ⟨0, rfl, Nat.zero_le _, rfl, rfl, 0, rfl⟩
  case round =>
    obtain ⟨j, rfl, hj, rfl, HT, m, rfl⟩ := hrel
    by_cases hlt : j < n
    · have d1 : w.cell? ⟨ga, j, none⟩ = some (.int .i64 (xs.getD j 0)) := ints_cell HA.out j (by rw [HX.out]; exact hlt)
      have d2 : w.cell? ⟨gb, j, none⟩ = some (.int .i64 (ys.getD j 0)) := ints_cell HB.out j (by rw [HY.out]; exact hlt)
      obtain ⟨x, HXx⟩ : ∃ x, Hid (xs.getD j 0 = x) := ⟨_, (rfl : _ = _)⟩
      obtain ⟨y, HYy⟩ : ∃ y, Hid (ys.getD j 0 = y) := ⟨_, (rfl : _ = _)⟩
      rw [HXx.out] at d1
      rw [HYy.out] at d2
      by_cases e : x = y
      · subst e
        go_wp2_with fail
        go_big_quiet (fail)
        go_wp2_with fail
        go_roundg (n - (j + 1))
        case measure => omega
        case rel => exact ⟨j + 1, by simp, by omega, rfl, take_succ_eq HT.out (by rw [HX.out]; exact hlt) (by rw [HY.out]; exact hlt) (HXx.out.trans HYy.out.symm), m + nq, by first | rfl | rw [World.drewN_drewN]⟩
      · have hne : (x != y) = true := by simpa using e
        have HE := hid e
        clear e
        go_wp2_with fail
        go_big_quiet (fail)
        go_wp2_with fail
        go_ret
        exact ⟨by rw [decide_eq_false]; (try rfl); rintro rfl; exact HE.out (HXx.out.symm.trans HYy.out), m + nq, by first | rfl | rw [World.drewN_drewN]⟩
    · have hjn : j = n := by omega
      subst hjn
      go_wp2_with fail
      go_ret
      have h1 := HT.out
      rw [List.take_of_length_le (by rw [HX.out]; exact Nat.le_refl _), List.take_of_length_le (by rw [HY.out]; exact Nat.le_refl _)] at h1
      exact ⟨by rw [decide_eq_true h1] <;> rfl, m, rfl⟩
theorem sameInts_ne (oa ob : Option Addr) (n m ca cb : Nat) (w : World) (h : n ≠ m) (hn : n ≤ 1000000) (hm : m ≤ 1000000) : Calls Tryz.prog 17 #[.slice oa n ca, .slice ob m cb] w fun e w' => e = .returned (.bool false) ∧ w' = w := by
  have hb : ((n : Int) != (m : Int)) = true := by simp; omega
  go_enter Tryz.func17, Tryz.ntmps17
  go_wp2_with fail
  go_ret
  exact ⟨rfl, rfl⟩
theorem sameInts_zero (oa ob : Option Addr) (ca cb : Nat) (w : World) : Calls Tryz.prog 17 #[.slice oa 0 ca, .slice ob 0 cb] w fun e w' => e = .returned (.bool true) ∧ w' = w := by
  go_enter Tryz.func17, Tryz.ntmps17
  go_wp2_with fail
  go_loopg [5] 0 (fun kk i wr => kk = 0 ∧ i = .int .i64 0 ∧ wr = w)
  case atStart => exact ⟨rfl, rfl, rfl⟩
  case round =>
    obtain ⟨rfl, rfl, rfl⟩ := hrel
    go_wp2_with fail
    go_ret
    exact ⟨rfl, rfl⟩
theorem sameInts_gen {w : World} {va vb : Value} {xs ys : List Int} (ha : IntsV w va xs) (hb : IntsV w vb ys) (hn : xs.length ≤ 1000000) (hm : ys.length ≤ 1000000) : Calls Tryz.prog 17 #[va, vb] w fun e w' => e = .returned (.bool (decide (xs = ys))) ∧ ∃ m, w' = w.drewN m := by
  have key : ∀ (oa ob : Option Addr) (ca cb : Nat), va = .slice oa xs.length ca → vb = .slice ob ys.length cb → xs.length ≠ ys.length ∨ (xs = [] ∧ ys = []) → Calls Tryz.prog 17 #[va, vb] w fun e w' => e = .returned (.bool (decide (xs = ys))) ∧ ∃ m, w' = w.drewN m := by
    rintro oa ob ca cb rfl rfl (h | ⟨rfl, rfl⟩)
    · refine (sameInts_ne oa ob _ _ ca cb w h hn hm).mono ?_
      rintro e w' ⟨rfl, rfl⟩
      exact ⟨by rw [decide_eq_false (fun e => h (congrArg List.length e))], 0, rfl⟩
    · refine (sameInts_zero oa ob ca cb w).mono ?_
      rintro e w' ⟨rfl, rfl⟩
      exact ⟨rfl, 0, rfl⟩
  rcases ha with ⟨rfl, rfl⟩ | ⟨g, c, rfl, h2⟩ <;> rcases hb with ⟨rfl, rfl⟩ | ⟨g', c', rfl, h4⟩
  · exact key none none 0 0 rfl rfl (Or.inr ⟨rfl, rfl⟩)
  · by_cases h : ys = []
    · exact key none (some ⟨g', 0, none⟩) 0 c' rfl rfl (Or.inr ⟨rfl, h⟩)
    · exact key none (some ⟨g', 0, none⟩) 0 c' rfl rfl (Or.inl (fun e => h (List.length_eq_zero_iff.1 e.symm)))
  · by_cases h : xs = []
    · exact key (some ⟨g, 0, none⟩) none c 0 rfl rfl (Or.inr ⟨h, rfl⟩)
    · exact key (some ⟨g, 0, none⟩) none c 0 rfl rfl (Or.inl (fun e => h (List.length_eq_zero_iff.1 e)))
  · by_cases h : xs.length = ys.length
    · have F := sameInts_dr (ca := c) (cb := c') (n := xs.length) h2 h4 rfl h.symm hn
      rw [← h]
      exact F
    · exact key (some ⟨g, 0, none⟩) (some ⟨g', 0, none⟩) c c' rfl rfl (Or.inl h)

/-- n events in memory: where each begins and ends, its groups, its bytes -/
structure EvW (w : World) (v : Value) (n : Nat) (A B : Nat → Int) (GV : Nat → Value) (GS : Nat → List Int) (TX : Nat → ByteArray) : Prop where
  val : (n = 0 ∧ ∃ o c, v = .slice o 0 c) ∨ ∃ g c, v = .slice (some ⟨g, 0, none⟩) n c ∧ g < w.heap.size ∧
    (∀ k, k < n → w.cell? ⟨g, k * 4, none⟩ = some (.int .i64 (A k)) ∧ w.cell? ⟨g, k * 4 + 1, none⟩ = some (.int .i64 (B k)) ∧ w.cell? ⟨g, k * 4 + 2, none⟩ = some (GV k) ∧ w.cell? ⟨g, k * 4 + 3, none⟩ = some (.string (TX k)))
  gv : ∀ k, k < n → IntsV w (GV k) (GS k) ∧ (GS k).length ≤ 1000000
theorem EvW.kept {w w' : World} {v : Value} {n : Nat} {A B : Nat → Int} {GV : Nat → Value} {GS : Nat → List Int} {TX : Nat → ByteArray} (h : EvW w v n A B GV GS TX) (k : Kept Nil w w') : EvW w' v n A B GV GS TX := by
  refine ⟨?_, fun i hi => ⟨(h.gv i hi).1.kept k, (h.gv i hi).2⟩⟩
  rcases h.val with h | ⟨g, c, h1, h2, h3⟩
  · exact Or.inl h
  · have kc : ∀ i, w'.cell? ⟨g, i, none⟩ = w.cell? ⟨g, i, none⟩ := fun i => k.cell (p := ⟨g, i, none⟩) h2 (fun h => h)
    exact Or.inr ⟨g, c, h1, Nat.lt_of_lt_of_le h2 k.size, fun i hi => ⟨(kc _).trans (h3 i hi).1, (kc _).trans (h3 i hi).2.1, (kc _).trans (h3 i hi).2.2.1, (kc _).trans (h3 i hi).2.2.2⟩⟩
set_option maxHeartbeats 8000000 in
theorem same_rd {w : World} {va vb : Value} {n : Nat} {A B : Nat → Int} {GV GV' : Nat → Value} {GS GS' : Nat → List Int} {TX : Nat → ByteArray} (gr : Bool) (ha : EvW w va n A B GV GS TX) (hb : EvW w vb n A B GV' GS' TX) (hn : n ≤ 100000000) (hg : gr = true → ∀ k, k < n → GS k = GS' k) :
    Calls Tryz.prog 12 #[va, vb, .bool gr] w fun e w' => e = .returned (.bool true) ∧ Kept Nil w w' := by
  have H1 := hid ha
  have H2 := hid hb
  have HG := hid hg
  by_cases h0 : n = 0
  · subst h0
    obtain ⟨oa, ca, rfl⟩ : ∃ o c, va = .slice o 0 c := by
      rcases ha.val with ⟨_, h⟩ | ⟨g, c, h, _⟩
      · exact h
      · exact ⟨_, _, h⟩
    obtain ⟨ob, cb, rfl⟩ : ∃ o c, vb = .slice o 0 c := by
      rcases hb.val with ⟨_, h⟩ | ⟨g, c, h, _⟩
      · exact h
      · exact ⟨_, _, h⟩
    clear ha hb hg H1 H2 HG hn
    go_enter Tryz.func12, Tryz.ntmps12
    go_wp2_with fail
    go_loopg [7] 0 (fun kk i wr => kk = 0 ∧ i = .int .i64 0 ∧ wr = w)
    case atStart => exact ⟨rfl, rfl, rfl⟩
    case round =>
      obtain ⟨rfl, rfl, rfl⟩ := hrel
      go_wp2_with fail
      go_ret
      exact ⟨rfl, Kept.refl _ _⟩
  · obtain ⟨g, c, rfl, hlt, _⟩ := ha.val.resolve_left (fun h => h0 h.1)
    obtain ⟨g', c', rfl, hlt', _⟩ := hb.val.resolve_left (fun h => h0 h.1)
    clear ha hb hg hlt hlt'
    go_enter Tryz.func12, Tryz.ntmps12
    go_wp2_with fail
    go_loopg [7] n (fun kk i wr => ∃ j : Nat, i = .int .i64 j ∧ j ≤ n ∧ kk = n - j ∧ Hid (Kept Nil w wr))
    case atStart => exact ⟨0, rfl, Nat.zero_le _, rfl, Kept.refl _ _⟩
    case round =>
      obtain ⟨j, rfl, hj, rfl, K⟩ := hrel
      by_cases hjn : j < n
      · have E1 := H1.out.kept K.out
        have E2 := H2.out.kept K.out
        obtain ⟨g1, c1, e1, _, f1⟩ := E1.val.resolve_left (fun h => h0 h.1)
        obtain ⟨g2, c2, e2, _, f2⟩ := E2.val.resolve_left (fun h => h0 h.1)
        simp only [Value.slice.injEq, Option.some.injEq, Addr.mk.injEq, true_and, and_true] at e1 e2
        obtain ⟨rfl, rfl⟩ := e1
        obtain ⟨rfl, rfl⟩ := e2
        obtain ⟨a0, a1, a2, a3⟩ := f1 j hjn
        obtain ⟨b0, b1, b2, b3⟩ := f2 j hjn
        have G1 := hid (E1.gv j hjn)
        have G2 := hid (E2.gv j hjn)
        have HGj : Hid (gr = true → GS j = GS' j) := fun h => HG.out h j hjn
        clear f1 f2 E1 E2
        generalize A j = xa at *
        generalize B j = xb at *
        generalize GV j = gv at *
        generalize GV' j = gv' at *
        generalize GS j = gs at *
        generalize GS' j = gs' at *
        generalize TX j = tx at *
        go_wp2_with fail
        go_big_quiet (fail)
        clear a0 a1 a3 b0 b1 b3
        replace a2 : (wr.drewN nq).cell? ⟨g, j * 4 + 2, none⟩ = some gv := a2
        replace b2 : (wr.drewN nq).cell? ⟨g', j * 4 + 2, none⟩ = some gv' := b2
        have K1 : Hid (Kept Nil w (wr.drewN nq)) := K.out.drewN nq
        have F : Hid (∀ n, Calls Tryz.prog 17 #[gv, gv'] ((wr.drewN nq).drewN n) fun e w' => e = .returned (.bool (decide (gs = gs'))) ∧ ∃ m, w' = (wr.drewN nq).drewN m) := fun n => by
          have kk : Kept Nil wr ((wr.drewN nq).drewN n) := ((Kept.refl Nil wr).drewN nq).drewN n
          refine (sameInts_gen (G1.out.1.kept kk) (G2.out.1.kept kk) G1.out.2 G2.out.2).mono ?_
          rintro e w' ⟨rfl, m, rfl⟩
          exact ⟨rfl, n + m, by rw [World.drewN_drewN]⟩
        clear G1 G2
        obtain ⟨eq, HEQ⟩ : ∃ eq, Hid (decide (gs = gs') = eq) := ⟨_, (rfl : _ = _)⟩
        rw [HEQ.out] at F
        clear K
        generalize wr.drewN nq = wr2 at *
        clear nq
        go_wp2_with fail
        go_big_quiet (first | (go_at_call 17; exact F.out _))
        have hcase : gr = false ∨ eq = true := by
          cases gr
          · exact Or.inl rfl
          · right
            rw [← HEQ.out]
            exact decide_eq_true (HGj.out rfl)
        rcases hcase with rfl | rfl
        · go_wp2_with fail
          go_roundg (n - (j + 1))
          case measure => omega
          case rel => exact ⟨j + 1, by go_num, by omega, rfl, K1.out.drewN _⟩
        · cases gr
          all_goals
            go_wp2_with fail
            go_roundg (n - (j + 1))
            case measure => omega
            case rel => exact ⟨j + 1, by go_num, by omega, rfl, K1.out.drewN _⟩
      · go_wp2_with fail
        go_ret
        exact ⟨rfl, K.out⟩
set_option maxRecDepth 100000

theorem EvsAt.evW {w : World} {base N2 : Nat} {v : Value} {s : ByteArray} {l : List (Ev × Nat)} (h : EvsAt w base v s N2 l) (hN : ∀ p ∈ l, p.1.gs.length = N2) (hb : N2 ≤ 1000000) : EvW w v l.length (fun k => (bd s (l.getD k (⟨0, 0, []⟩, 0)).1.a : Int)) (fun k => (bd s (l.getD k (⟨0, 0, []⟩, 0)).1.b : Int)) (fun k => .slice (some ⟨(l.getD k (⟨0, 0, []⟩, 0)).2, 0, none⟩) N2 N2) (fun k => (l.getD k (⟨0, 0, []⟩, 0)).1.gs) (fun k => s.extract (bd s (l.getD k (⟨0, 0, []⟩, 0)).1.a) (bd s (l.getD k (⟨0, 0, []⟩, 0)).1.b)) := by
  have gd : ∀ k, (hk : k < l.length) → l.getD k (⟨0, 0, []⟩, 0) = l[k] := fun k hk => by simp [List.getD_eq_getElem?_getD, List.getElem?_eq_getElem hk]
  refine ⟨?_, fun k hk => ?_⟩
  · by_cases hne : l = []
    · subst hne
      obtain ⟨o, c, rfl⟩ := ownsRow_slice h.row
      exact Or.inl ⟨rfl, o, c, rfl⟩
    · obtain ⟨g, c, rfl, h1, h2, h3, h4⟩ := h.get hne
      refine Or.inr ⟨g, c, rfl, h2, fun k hk => ?_⟩
      simp only [gd k hk]
      exact h4 k hk
  · simp only [gd k hk]
    have hl := hN _ (List.getElem_mem hk)
    exact ⟨Or.inr ⟨_, N2, by rw [hl], (h.grp _ (List.getElem_mem hk)).2⟩, by omega⟩

set_option maxRecDepth 100000

theorem EvW.congr {w : World} {v : Value} {n m : Nat} {A A' B B' : Nat → Int} {GV : Nat → Value} {GS GS' : Nat → List Int} {TX TX' : Nat → ByteArray} (h : EvW w v n A B GV GS TX) (hn : n = m) (hA : ∀ k, k < n → A k = A' k) (hB : ∀ k, k < n → B k = B' k) (hG : ∀ k, k < n → GS k = GS' k) (hT : ∀ k, k < n → TX k = TX' k) : EvW w v m A' B' GV GS' TX' := by
  subst hn
  refine ⟨?_, fun k hk => by rw [← hG k hk]; exact h.gv k hk⟩
  rcases h.val with h1 | ⟨g, c, h1, h2, h3⟩
  · exact Or.inl h1
  · exact Or.inr ⟨g, c, h1, h2, fun k hk => by rw [← hA k hk, ← hB k hk, ← hT k hk]; exact h3 k hk⟩


end Go.Proofs.YtnbfddjaonlmaaaGreatDoor
