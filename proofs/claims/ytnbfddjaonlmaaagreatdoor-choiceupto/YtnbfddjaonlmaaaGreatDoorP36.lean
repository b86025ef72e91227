/- Package whole's comesOff: whether a try comes off from a state, at a place. -/
import Derived.Test.YtnbfddjaonlmaaaGreatDoorP35
namespace Go.Proofs.YtnbfddjaonlmaaaGreatDoor
open Go.RowKit Go.Maps
set_option linter.unusedVariables false
set_option maxRecDepth 100000

/-- an outlook that is right -/
structure OutAt (w : World) (g : OG) (blk : Nat) (wf wr : List Nat) : Prop where
  at_ : OtAt w g blk wf wr
  lt : blk + 1 < g.ixs.length
  firsts : ∀ k, k < g.ixs.length → RowOk g wf k (g.ixs.getD k 0)
  rows : RowsOk g wr blk (g.ixs.getD blk 0)
theorem OutAt.kept {w w' : World} {g : OG} {blk : Nat} {wf wr : List Nat} (h : OutAt w g blk wf wr) (k : Kept Nil w w') : OutAt w' g blk wf wr := ⟨h.at_.kept k, h.lt, h.firsts, h.rows⟩
theorem bd_lt_iff {s : ByteArray} {i j : Nat} (hi : i ≤ (runesOf s).length) (hj : j ≤ (runesOf s).length) : bd s i < bd s j ↔ i < j := by
  constructor
  · intro h
    refine Nat.lt_of_not_le fun hle => ?_
    have := bd_mono s hle
    omega
  · intro h
    exact bd_strict h (by omega)
/-- has, of a row of the outlook -/
theorem has_of {w : World} {g : OG} {blk : Nat} {wf wr : List Nat} (hg : g.Ok) (h : OtAt w g blk wf wr) {r u : Nat} (hr : r < g.nr) (hu : u < g.ms.length) (m : Nat) :
    Calls Tryz.prog 60 #[.slice (some ⟨g.WB, r * g.L, none⟩) g.L g.L, .int .i64 (u : Int)] (w.drewN m) fun e w' => e = .returned (.bool (bitAt wr (r * g.L) u)) ∧ w' = w.drewN m := by
  have hf := row_fits (g := g) h.wl.1 hr
  have hu2 : u / 64 < g.L := by have := hg.L_eq; omega
  have hc : (w.drewN m).cell? ⟨g.WB, r * g.L + u / 64, none⟩ = some (.int .u64 (wr.getD (r * g.L + u / 64) 0 : Nat)) := by
    have := h.bw.cell (r * g.L + u / 64)
    rw [u64_cell (by omega)] at this
    exact this
  have hfew := hg.few
  exact has_rd (w.drewN m) g.WB (r * g.L) g.L g.L _ u (h.wl.2.getD _) hu2 (by omega) hc

set_option maxHeartbeats 4000000 in
theorem comesOff_rd {w : World} {g : OG} {blk : Nat} {wf wd : List Nat} (hg : g.Ok) (hO : OutAt w g blk wf wd) {u i : Nat} (hu : u < g.ms.length) (hi : i ≤ (runesOf g.s).length) (hbi : g.ixs.getD blk 0 ≤ i) :
    Calls Tryz.prog 42 #[.pointer (some ⟨g.ob, 0, none⟩), .int .i64 (u : Int), .int .i64 (bd g.s i : Int)] w fun e w' => e = .returned (.bool (off g.ms (txOf g.s) u i)) ∧ ∃ blk' wd', OutAt w' g blk' wf wd' ∧ g.ixs.getD blk' 0 ≤ i ∧ Kept (fun i => i = g.ob ∨ i = g.WB) w w' := by
  have hblt := hO.lt
  have hfew := hg.bg.few
  have hsz := hg.size
  have hbd := bd_le g.s i
  have c10 : w.cell? ⟨g.ob, 10, none⟩ = some (.int .i64 (blk : Int)) := hO.at_.rk.out.cell 10
  have c8 : w.cell? ⟨g.ob, 8, none⟩ = some (.slice (some ⟨g.bgb, 0, none⟩) g.ixs.length g.cb) := hO.at_.rk.out.cell 8
  have HG := hid hg
  have HO := hid hO
  have HBI := hid hbi
  clear hg hO hbi
  go_enter Tryz.func42, Tryz.ntmps42
  go_wp2_with fail
  go_loopg [7] (g.ixs.length - blk) (fun kk v wq => ∃ k : Nat, v = .int .i64 (k : Int) ∧ k + 1 < g.ixs.length ∧ blk ≤ k ∧ kk = g.ixs.length - k ∧ Hid (g.ixs.getD k 0 ≤ i) ∧ wq = w)
  case atStart => exact ⟨blk, rfl, hblt, Nat.le_refl _, rfl, HBI, rfl⟩
  case round =>
    obtain ⟨k, rfl, hk1, hk2, hkk, HK, hww⟩ := hrel
    have hww' : w = wr := hww.symm
    subst hww'
    clear hww
    have HIN := hid (HG.out.bg.in_ (k + 1))
    have cb : w.cell? ⟨g.bgb, k + 1, none⟩ = some (.int .i64 (bd g.s (g.ixs.getD (k + 1) 0) : Int)) := HO.out.at_.bg (k + 1) hk1
    have hbk := bd_le g.s (g.ixs.getD (k + 1) 0)
    obtain ⟨b1, HB1⟩ : ∃ b1, Hid (bd g.s (g.ixs.getD (k + 1) 0) = b1) := ⟨_, (rfl : _ = _)⟩
    rw [HB1.out] at cb hbk
    by_cases hgt : b1 < bd g.s i
    · have hk3 : k + 1 + 1 < g.ixs.length := by
        have hki : g.ixs.getD (k + 1) 0 < i := (bd_lt_iff HIN.out hi).1 (by rw [HB1.out]; exact hgt)
        refine Nat.lt_of_not_le fun hle => ?_
        have e : k + 1 = g.ixs.length - 1 := by omega
        have := HG.out.bg.last
        rw [← e] at this
        omega
      have HKI : Hid (g.ixs.getD (k + 1) 0 ≤ i) := by
        have hki : g.ixs.getD (k + 1) 0 < i := (bd_lt_iff HIN.out hi).1 (by rw [HB1.out]; exact hgt)
        show _ ≤ _
        omega
      have hgt2 : (b1 : Int) < (bd g.s i : Int) := by omega
      go_wp2_with fail
      go_roundg (g.ixs.length - (k + 1))
      case measure => omega
      case rel => exact ⟨k + 1, by simp, hk3, by omega, rfl, HKI, rfl⟩
    · have HIK : Hid (i ≤ g.ixs.getD (k + 1) 0) := Nat.le_of_not_lt fun h => hgt (by rw [← HB1.out]; exact (bd_lt_iff HIN.out hi).2 h)
      have HRW := hid ((BkOk.of HG.out hk1).row HG.out HK.out HIK.out)
      have hbk0 := bd_le g.s (g.ixs.getD k 0)
      have cb0 : w.cell? ⟨g.bgb, k, none⟩ = some (.int .i64 (bd g.s (g.ixs.getD k 0) : Int)) := HO.out.at_.bg k (by omega)
      obtain ⟨b0, HB0⟩ : ∃ b0, Hid (bd g.s (g.ixs.getD k 0) = b0) := ⟨_, (rfl : _ = _)⟩
      rw [HB0.out] at cb0 hbk0
      obtain ⟨r, HR⟩ : ∃ r, Hid (bd g.s i = b0 + r) := ⟨bd g.s i - b0, by show _ = _; have := HRW.out; have := HB0.out; omega⟩
      have hrn : r < g.nr := by have := HRW.out; have := HR.out; have := HB0.out; omega
      have hsub : (bd g.s i : Int) - (b0 : Int) = (r : Int) := by have := HR.out; omega
      have FIN : Hid (∀ (w' : World) (wd' : List Nat), OutAt w' g k wf wd' → bitAt wd' (r * g.L) u = off g.ms (txOf g.s) u i) := fun w' wd' h => by
        have := h.rows i HK.out HIK.out u hu
        have e : bd g.s i - g.from k = r := by unfold OG.from; have := HR.out; have := HB0.out; omega
        rw [e] at this
        exact this
      have hgt2 : ¬ (b1 : Int) < (bd g.s i : Int) := by omega
      by_cases ek : k = blk
      · subst ek
        have c11 : w.cell? ⟨g.ob, 11, none⟩ = some (.slice (some ⟨g.rh, 0, none⟩) g.nr g.cr) := HO.out.at_.rk.out.cell 11
        have crh : w.cell? ⟨g.rh, r, none⟩ = some (.slice (some ⟨g.WB, r * g.L, none⟩) g.L g.L) := HO.out.at_.rh r hrn
        have HAS := hid fun m => has_of HG.out HO.out.at_ hrn hu m
        go_wp2_with fail
        go_big_quiet (first | (go_at_call 60; refine Calls.quiet_of_same (HAS.out _)))
        go_wp2_with fail
        go_ret
        have e := FIN.out _ _ HO.out
        rw [e]
        exact ⟨rfl, k, wd, HO.out.kept ((Kept.refl Nil w).drewN nq), HK.out, (Kept.refl _ w).drewN nq⟩
      · have ek2 : ((k : Int) != (blk : Int)) = true := by simp; omega
        have F := hid (load_rd HG.out HO.out.at_ hk1 (HO.out.firsts (k + 1) hk1))
        go_wp2_with fail
        refine (F.out).mono ?_
        rintro e w2 ⟨rfl, wd2, h2, h3, k2⟩
        have O2 : Hid (OutAt w2 g k wf wd2) := ⟨h2, hk1, HO.out.firsts, h3⟩
        have c11 : w2.cell? ⟨g.ob, 11, none⟩ = some (.slice (some ⟨g.rh, 0, none⟩) g.nr g.cr) := h2.rk.out.cell 11
        have c82 : w2.cell? ⟨g.ob, 8, none⟩ = some (.slice (some ⟨g.bgb, 0, none⟩) g.ixs.length g.cb) := h2.rk.out.cell 8
        have cb2 : w2.cell? ⟨g.bgb, k, none⟩ = some (.int .i64 (b0 : Int)) := by rw [← HB0.out]; exact h2.bg k (by omega)
        have crh : w2.cell? ⟨g.rh, r, none⟩ = some (.slice (some ⟨g.WB, r * g.L, none⟩) g.L g.L) := h2.rh r hrn
        have HAS := hid fun m => has_of HG.out h2 hrn hu m
        have K2 := hid k2
        clear h2 h3 k2 F cb cb0 c8 c10
        go_wp2_with fail
        go_big_quiet (first | (go_at_call 60; refine Calls.quiet_of_same (HAS.out _)))
        go_wp2_with fail
        go_ret
        have e := FIN.out _ _ O2.out
        rw [e]
        exact ⟨rfl, k, wd2, O2.out.kept ((Kept.refl Nil w2).drewN nq), HK.out, K2.out.drewN nq⟩
end Go.Proofs.YtnbfddjaonlmaaaGreatDoor
