/- Go's strings. Package whole's match: the first try that comes off, its groups. -/
import Derived.Test.YtnbfddjaonlmaaaGreatDoorP37
import Derived.Deep.RegionLaw
import Derived.Laws.ResultCell
set_option linter.unusedVariables false
set_option maxRecDepth 100000
namespace Go.Proofs.YtnbfddjaonlmaaaGreatDoor
open Go.RowKit Go.Maps
set_option maxRecDepth 100000

theorem sclone_rd (s : ByteArray) (w : World) (hs : s.size ≤ 281474976710656) : Calls Tryz.prog 63 #[.string s] w fun e w' => e = .returned (.string s) ∧ Kept Nil w w' := by
  have F := hid (clone_any s w hs)
  go_enter Tryz.func63, Tryz.ntmps63
  go_wp2_with fail
  refine (F.out).mono ?_
  rintro e w1 ⟨rfl, hk⟩
  go_wp2_with fail
  go_ret
  exact ⟨rfl, hk⟩

/-- n times -1, and then zeros -/
def repL (n N : Nat) : List Value := List.replicate n (.int .i64 (-1)) ++ List.replicate (N - n) (.int .i64 0)
theorem repL_length {n N : Nat} (h : n ≤ N) : (repL n N).length = N := by unfold repL; simp; omega
theorem repL_get {n N k : Nat} (h : k < n) : (repL n N)[k]? = some (.int .i64 (-1)) := by
  unfold repL
  rw [List.getElem?_append_left (by simpa using h)]
  simp [h]
theorem repL_splice {n N k : Nat} (h : n + k ≤ N) : splice (repL n N) n (List.replicate k (.int .i64 (-1))) = repL (n + k) N := by
  unfold splice repL
  rw [List.take_append_of_le_length (by simp), List.take_of_length_le (by simp)]
  rw [List.length_replicate, List.drop_append, List.drop_of_length_le (by simp), List.nil_append, List.length_replicate, List.drop_replicate, ← List.append_assoc, List.replicate_append_replicate]
  congr 2
  omega
theorem made_ints (n : Nat) : madeCells #[.int .i64 0] n = (repL 0 n).toArray := by
  unfold madeCells repL
  refine Array.ext (by simp) fun k h1 h2 => ?_
  simp [Nat.mod_one]

/-- copy within a row of ints that is being filled -/
theorem wp_copy_rep {P : Program} {w : World} {o : Oper} {a : Act} {K : Act → World → Prop} {Q : Exit → Act → World → Prop} (d s : Operand) (dT sT : TypeId)
    (ho : o.op = .call { callee := .builtin .copy, args := #[d, s], argTypes := #[dT, sT] }) (elem : TypeId) (hu : P.underlying dT = some (.slice elem)) (hsz : (P.info? elem).map (·.size) = some 1)
    (g n N k c1 c2 : Nat) (ad : Addr) (dLen sLen : Nat) (hd : a.eval d = .slice (some ⟨g, n, none⟩) dLen c1) (hs : a.eval s = .slice (some ad) sLen c2) (t : TypeId) (hg : Blk w g (repL n N).toArray t) (hk : Nat.min sLen dLen = k) (hnk : n + k ≤ N)
    (hsrc : ∀ j, j < k → w.cell? (ad.add j) = some (.int .i64 (-1)))
    (h : ∀ w', Blk w' g (repL (n + k) N).toArray t → Kept (fun i => i = g) w w' → K (a.put o.dst (goInt k)) w') : o.wp P a w K Q := by
  have hrun := run_copy_row P w dT sT o.type elem g n dLen c1 ad sLen c2 (repL n N).toArray t (List.replicate k (.int .i64 (-1))) hu hsz hg (by rw [List.length_replicate, hk]) (fun j v hv => by
    have hj : j < k := by have := (List.getElem?_eq_some_iff.1 hv).1; simpa using this
    rw [List.getElem?_replicate, if_pos hj] at hv
    rw [← hv]; exact hsrc j hj) (by simp [repL_length (show n ≤ N by omega)]; omega) (fun v hv => by rw [List.eq_of_mem_replicate hv]; rfl)
  unfold Oper.wp
  simp [execOp, ho, resolve, invoke, builtin, hd, hs, hrun, Result.andThen]
  refine h _ ?_ (Kept.row g _)
  have := setRow_heap w g _ (List.take n (repL n N) ++ (List.replicate k (Value.int .i64 (-1)) ++ List.drop (n + k) (repL n N))).toArray t _ hg
  rw [← repL_splice hnk]
  unfold splice Blk
  rw [List.length_replicate]
  exact this
def TrueS (W : World) : Prop := True
set_option maxHeartbeats 4000000 in
theorem repeat_rd (w : World) (b N : Nat) (hb : w.cell? ⟨b, 0, none⟩ = some (.int .i64 (-1))) (hN : N ≤ 1000000) : Calls Tryz.prog 62 #[.slice (some ⟨b, 0, none⟩) 1 1, .int .i64 (N : Int)] w fun e w' => ∃ gb, w.heap.size ≤ gb ∧ e = .returned (.slice (some ⟨gb, 0, none⟩) N N) ∧ Blk w' gb (List.replicate N (.int .i64 (-1))).toArray 3 ∧ Kept Nil w w' := by
  have hblt := World.block_lt_of_cell? _ _ hb
  have F : Hid (Calls Tryz.prog 77 #[.int .u64 1, .int .u64 (N : Int)] w fun e w' => e = .returned (.tuple #[.int .u64 0, .int .u64 (N : Int)]) ∧ w' = w) := by
    have := mul_any 1 N (by omega) (by omega) w
    have e1 : 1 * N / 18446744073709551616 = 0 := by omega
    have e2 : 1 * N % 18446744073709551616 = N := by omega
    rw [e1, e2] at this
    exact this
  have hmk := fun W => Go.run_make_row' (P := Tryz.prog) 22 3 (.int .i64 0) 8 Tryz.underlying22 Tryz.infoInt rfl .i64 .i64 N (by omega) (by omega) W
  have B1 : Hid (Blk (w.alloc (.cells (madeCells #[.int .i64 0] N) 3)) w.heap.size (repL 0 N).toArray 3) := by
    have := Blk.new w (madeCells #[.int .i64 0] N) 3
    rw [made_ints] at this ⊢
    exact this
  have K1 : Hid (Kept Nil w (w.alloc (.cells (madeCells #[.int .i64 0] N) 3))) := (Kept.refl Nil w).alloc _
  have hb1 : (w.alloc (.cells (madeCells #[.int .i64 0] N) 3)).cell? ⟨b, 0, none⟩ = some (.int .i64 (-1)) := (K1.out.cell (p := ⟨b, 0, none⟩) hblt (fun h => h)).trans hb
  have hinf : (Tryz.prog.info? 3).map (·.size) = some 1 := by kernel_rfl
  obtain ⟨k0, HK0⟩ : ∃ k0, Hid (Nat.min 1 N = k0) := ⟨_, (rfl : _ = _)⟩
  have hk0 : k0 ≤ N ∧ k0 ≤ 1 ∧ (0 < N → k0 = 1) := by have := HK0.out; have e : Nat.min 1 N = min 1 N := rfl; omega
  go_enter Tryz.func62, Tryz.ntmps62
  go_wp2_with fail
  refine (F.out).mono ?_
  rintro e w0 ⟨rfl, hw0⟩
  rw [hw0]
  go_wp2_with (refine wpList_plain rfl fun K hK => wp_copy_rep (.tmp 31) (.tmp 32) 22 22 rfl 3 Tryz.underlying22 hinf w.heap.size 0 N k0 N 1 ⟨b, 0, none⟩ N 1 rfl rfl 3 B1.out ?p1 ?p2 ?p3 ?_)
  case p1 => exact HK0.out
  case p2 => omega
  case p3 =>
    intro j hj
    have : j = 0 := by omega
    subst this
    exact hb1
  intro w2 hb2 hk2
  have START : Hid (Blk w2 w.heap.size (repL k0 N).toArray 3 ∧ Kept Nil w w2) := by
    exact ⟨hb2, K1.out.trans' hk2 (fun i hi e => by omega)⟩
  clear hb2 hk2 hb1 B1 K1 hmk F
  go_wp2_with fail
  go_loopg [8] (N - k0) (fun kk v wr => ∃ n : Nat, v = .int .i64 (n : Int) ∧ k0 ≤ n ∧ n ≤ N ∧ kk = N - n ∧ Hid (Blk wr w.heap.size (repL n N).toArray 3 ∧ Kept Nil w wr))
  case atStart => exact ⟨k0, rfl, Nat.le_refl _, hk0.1, rfl, START⟩
  case round =>
    obtain ⟨n, rfl, hn1, hn2, hkk, HI⟩ := hrel
    clear START
    by_cases hlt : n < N
    · have hlt2 : (n : Int) < (N : Int) := by omega
      go_wp2_with fail
      refine wp_just (wp_region_last (S := TrueS) 9 (by kernel_rfl) rfl rfl rfl (by kernel_rfl) (by kernel_rfl) ?_)
      refine takeH 0 38 (.int .i64 (n : Int)) rfl rfl (by kernel_rfl) (by kernel_rfl) (by kernel_rfl) (fun _ _ _ h => h) (Or.inl ⟨by rfl, fun W hSW => by go_simp⟩) (trivial : TrueS _) ?_
      refine takeH 1 39 (.slice (some ⟨w.heap.size, 0, none⟩) N N) rfl rfl (by kernel_rfl) (by kernel_rfl) (by kernel_rfl) (fun _ _ _ h => h) (Or.inl ⟨by rfl, fun W hSW => by go_simp⟩) (trivial : TrueS _) ?_
      refine takeH 2 40 (.int .i64 (n : Int)) rfl rfl (by kernel_rfl) (by kernel_rfl) (by kernel_rfl) (fun _ _ _ h => h) (Or.inl ⟨by rfl, fun W hSW => by go_simp⟩) (trivial : TrueS _) ?_
      refine takeH 3 41 (.slice (some ⟨w.heap.size, n, none⟩) (N - n) (N - n)) rfl rfl (by kernel_rfl) (by kernel_rfl) (by kernel_rfl) (fun _ _ _ h => h) (Or.inl ⟨by rfl, fun W hSW => by go_simp; omega⟩) (trivial : TrueS _) ?_
      refine takeH 4 42 (.slice (some ⟨w.heap.size, 0, none⟩) N N) rfl rfl (by kernel_rfl) (by kernel_rfl) (by kernel_rfl) (fun _ _ _ h => h) (Or.inl ⟨by rfl, fun W hSW => by go_simp⟩) (trivial : TrueS _) ?_
      refine takeH 5 43 (.int .i64 (n : Int)) rfl rfl (by kernel_rfl) (by kernel_rfl) (by kernel_rfl) (fun _ _ _ h => h) (Or.inl ⟨by rfl, fun W hSW => by go_simp⟩) (trivial : TrueS _) ?_
      refine takeH 6 44 (.slice (some ⟨w.heap.size, 0, none⟩) n N) rfl rfl (by kernel_rfl) (by kernel_rfl) (by kernel_rfl) (fun _ _ _ h => h) (Or.inl ⟨by rfl, fun W hSW => by go_simp⟩) (trivial : TrueS _) ?_
      simp only [Act.put, List.setIfInBounds_toArray, List.set_cons_zero, List.set_cons_succ]
      obtain ⟨q, HQ⟩ : ∃ q, Hid (Nat.min n (N - n) = q) := ⟨_, (rfl : _ = _)⟩
      have hq : q ≤ n ∧ n + q ≤ N ∧ 0 < q := by have := HQ.out; have e : Nat.min n (N - n) = min n (N - n) := rfl; omega
      refine wpAnyH_ready (rs := [7]) (by kernel_rfl) (by simp) (AllReadyH.cons rfl (fun K hK => ?_) AllReadyH.nil)
      have hB : Blk wr.drew w.heap.size (repL n N).toArray 3 := HI.out.1
      have hsrc : ∀ j, j < q → wr.drew.cell? (Addr.add ⟨w.heap.size, 0, none⟩ j) = some (.int .i64 (-1)) := fun j hj => by
        have e : (⟨w.heap.size, 0, none⟩ : Addr).add j = ⟨w.heap.size, j, none⟩ := by unfold Addr.add; split <;> simp_all
        rw [e, hB.cell j]
        have := repL_get (n := n) (N := N) (k := j) (by omega)
        simpa using this
      refine wp_copy_rep (.tmp 41) (.tmp 44) 22 22 rfl 3 Tryz.underlying22 hinf w.heap.size n N q (N - n) N ⟨w.heap.size, 0, none⟩ (N - n) n rfl rfl 3 hB HQ.out hq.2.1 hsrc ?_
      intro w5 hb5 hk5
      have HI5 : Hid (Blk w5 w.heap.size (repL (n + q) N).toArray 3 ∧ Kept Nil w w5) := ⟨hb5, (HI.out.2.drew).trans' hk5 (fun i hi e => by omega)⟩
      clear hb5 hk5 hB hsrc HI
      refine hK.out _ _ (trivial : TrueS _) (fun _ => ?_)
      clear hK K
      simp only [List.getElem_toArray, List.getElem_cons_succ, List.getElem_cons_zero, Act.put, List.setIfInBounds_toArray, List.set_cons_zero, List.set_cons_succ]
      refine wpAnyH_ready (rs := [8]) (by kernel_rfl) (by simp) (AllReadyH.cons rfl (fun K hK => ?_) AllReadyH.nil)
      go_simp
      refine hK.out _ _ (trivial : TrueS _) (fun _ => ?_)
      clear hK K
      refine wpAnyH_done (by kernel_rfl) ?_ _
      unfold thenLast
      go_simp
      refine justN_n ?_
      go_wp2_with fail
      go_roundg (N - (n + q))
      case measure => omega
      case rel => exact ⟨n + q, by simp; rw [IntKind.wrap_i64]; omega, by omega, hq.2.1, rfl, HI5⟩
    · have hn : n = N := by omega
      have FIN : Hid (Blk wr w.heap.size (List.replicate N (.int .i64 (-1))).toArray 3 ∧ Kept Nil w wr) := by
        have := HI.out
        rw [hn] at this
        have e : repL N N = List.replicate N (.int .i64 (-1)) := by unfold repL; simp
        rw [e] at this
        exact this
      have hlt2 : ¬ (n : Int) < (N : Int) := by omega
      clear HI
      go_wp2_with fail
      go_ret
      exact ⟨w.heap.size, Nat.le_refl _, rfl, FIN.out.1, FIN.out.2⟩

/-- the outlook's blocks lie below b -/
def OG.below (g : OG) (b : Nat) : Prop := (g.ob < b ∧ g.mb < b ∧ g.hi ≤ b) ∧ (0 < b ∧ 1 < b) ∧ (g.bgb < b ∧ g.fh < b ∧ g.rh < b) ∧ g.FB < b ∧ g.WB < b
theorem OtAt.below {w : World} {g : OG} {blk : Nat} {wf wr : List Nat} (h : OtAt w g blk wf wr) : g.below w.heap.size := ⟨⟨h.rk.out.lt, h.rk.sts.lt, h.rk.le⟩, h.rk.tabs.lt, h.lt, h.bf.lt, h.bw.lt⟩
theorem OtAt.far {w w' : World} {g : OG} {blk b : Nat} {wf wr : List Nat} (h : OtAt w g blk wf wr) (hb : g.below b) (k : Kept (fun i => b ≤ i) w w') : OtAt w' g blk wf wr where
  rk := h.rk.kept k (by have := hb.1; omega) (by have := hb.1; omega) (fun i _ h2 => by have := hb.1; omega) (by have := hb.2.1; omega) (by have := hb.2.1; omega)
  bg i hi := (k.cell (p := ⟨g.bgb, i, none⟩) h.lt.1 (by have := hb.2.2.1; show ¬ b ≤ g.bgb; omega)).trans (h.bg i hi)
  fh i hi := (k.cell (p := ⟨g.fh, i, none⟩) h.lt.2.1 (by have := hb.2.2.1; show ¬ b ≤ g.fh; omega)).trans (h.fh i hi)
  rh i hi := (k.cell (p := ⟨g.rh, i, none⟩) h.lt.2.2 (by have := hb.2.2.1; show ¬ b ≤ g.rh; omega)).trans (h.rh i hi)
  lt := by have := k.size; have := h.lt; omega
  bf := h.bf.kept k (by have := hb.2.2.2; omega)
  bw := h.bw.kept k (by have := hb.2.2.2; omega)
  fl := h.fl
  wl := h.wl
theorem OutAt.far {w w' : World} {g : OG} {blk b : Nat} {wf wr : List Nat} (h : OutAt w g blk wf wr) (hb : g.below b) (k : Kept (fun i => b ≤ i) w w') : OutAt w' g blk wf wr := ⟨h.at_.far hb k, h.lt, h.firsts, h.rows⟩
theorem Runs.fwd {M : List MS} {x : TX} {u : Int} {i : Nat} {gs : List Int} {r : Got} (h : Runs M x u i gs r) : i ≤ x.l.length → ∀ j gs', r = some (j, gs') → i ≤ j ∧ j ≤ x.l.length ∧ gs'.length = gs.length := by
  induction h with
  | done s m i gs h hk => intro hi j gs' e; cases e; exact ⟨Nat.le_refl _, hi, rfl⟩
  | takeY s m i gs r h hk ht hn ih =>
    intro hi j gs' e
    have hlt : i < x.l.length := by simp at ht; exact ht.1
    have := ih hlt j gs' e
    exact ⟨by omega, this.2⟩
  | takeN s m i gs h hk ht => intro hi j gs' e; cases e
  | standY s m i gs r h hk he hn ih => intro hi j gs' e; exact ih hi j gs' e
  | standN s m i gs h hk he => intro hi j gs' e; cases e
  | mark s m i gs r h hk hn ih => intro hi j gs' e; have := ih hi j gs' e; simpa using this
  | forkY s m i gs v h hk hn ih => intro hi j gs' e; exact ih hi j gs' e
  | forkN s m i gs r h hk hn ho ih ih' => intro hi j gs' e; exact ih' hi j gs' e
theorem width_bd (w : World) (s : ByteArray) (i : Nat) (hi : i < (runesOf s).length) (hs : s.size ≤ 10000000) (hT : Tabs w) : Calls Tryz.prog 43 #[.string s, .int .i64 (bd s i : Int)] w fun e w' => e = .returned (.int .i64 ((bd s (i + 1) : Int) - (bd s i : Int))) ∧ Kept Nil w w' := by
  refine (width_rd s (bd s i) w (bd_le s i) (by omega) hT).mono ?_
  rintro e w' ⟨rfl, hk⟩
  refine ⟨?_, hk⟩
  have h1 := bd_size hi
  have h2 := bd_next hi
  have h3 := bd_step hi
  rw [decodeGo_at s _ h1]
  congr 2
  omega
theorem intL_set (gs : List Int) (k : Nat) (v : Int) : (intL gs).toArray.setIfInBounds k (.int .i64 v) = (intL (gs.set k v)).toArray := by
  unfold intL
  simp [List.map_set]

/-- between two rounds of match -/
structure MtR (w wr : World) (g : OG) (gb : Nat) (wf : List Nat) (i u : Nat) (gs : List Int) (res : Got) (N2 : Nat) : Prop where
  i_le : i ≤ (runesOf g.s).length
  u_lt : u < g.ms.length
  runs : Runs g.ms (txOf g.s) (u : Int) i gs res
  out : ∃ blk wd, OutAt wr g blk wf wd ∧ g.ixs.getD blk 0 ≤ i
  grp : Blk wr gb (intL gs).toArray 3
  len : gs.length = N2
  kept : Kept (fun i => i = g.ob ∨ i = g.WB) w wr
  box : Blk wr w.heap.size #[.int .i64 0, .int .i64 0, .slice none 0 0, .string ⟨#[]⟩] 45
theorem MtR.keptN {w wr w' : World} {g : OG} {gb : Nat} {wf : List Nat} {i u : Nat} {gs : List Int} {res : Got} {N2 : Nat} (h : MtR w wr g gb wf i u gs res N2) (k : Kept Nil wr w') : MtR w w' g gb wf i u gs res N2 := by
  obtain ⟨blk, wd, o1, o2⟩ := h.out
  exact ⟨h.i_le, h.u_lt, h.runs, ⟨blk, wd, o1.kept k, o2⟩, h.grp.kept k (fun h => h), h.len, h.kept.trans (k.mono (fun _ h => h.elim)), h.box.kept k (fun h => h)⟩
theorem MtR.go {w wr : World} {g : OG} {gb : Nat} {wf : List Nat} {i u i' u' : Nat} {gs : List Int} {res : Got} {N2 : Nat} (h : MtR w wr g gb wf i u gs res N2) (hi : i ≤ i') (hi' : i' ≤ (runesOf g.s).length) (hu : u' < g.ms.length) (hr : Runs g.ms (txOf g.s) (u' : Int) i' gs res) : MtR w wr g gb wf i' u' gs res N2 := by
  obtain ⟨blk, wd, o1, o2⟩ := h.out
  exact ⟨hi', hu, hr, ⟨blk, wd, o1, by omega⟩, h.grp, h.len, h.kept, h.box⟩
set_option maxHeartbeats 8000000 in
theorem match_rd {w : World} {g : OG} {blk : Nat} {wf wd : List Nat} (hg : g.Ok) (hO : OutAt w g blk wf wd) {i0 j u0 G : Nat} {gsF : List Int} (hi0 : i0 ≤ (runesOf g.s).length) (hbi : g.ixs.getD blk 0 ≤ i0) (hst : g.st = (u0 : Int)) (hu0 : u0 < g.ms.length) (hG : g.G = (G : Int)) (hG2 : G ≤ 100000) (hR : Runs g.ms (txOf g.s) (u0 : Int) i0 (List.replicate (2 * G) (-1)) (some (j, gsF))) :
    Calls Tryz.prog 44 #[.pointer (some ⟨g.ob, 0, none⟩), .int .i64 (bd g.s i0 : Int)] w fun e w' => ∃ gb, e = .returned (.tuple #[.agg #[.int .i64 (bd g.s i0 : Int), .int .i64 (bd g.s j : Int), .slice (some ⟨gb, 0, none⟩) (2 * G) (2 * G), .string (g.s.extract (bd g.s i0) (bd g.s j))], .bool true]) ∧ w.heap.size ≤ gb ∧ Blk w' gb (intL gsF).toArray 3 ∧ ∃ blk' wd', OutAt w' g blk' wf wd' ∧ g.ixs.getD blk' 0 ≤ j ∧ Kept (fun i => i = g.ob ∨ i = g.WB) w w' := by
  have HG := hid hg
  have HO := hid hO
  have HBI := hid hbi
  have HR := hid hR
  have HST := hid hst
  have HFW := hid (hR.fwd hi0 j gsF rfl)
  have HBL := hid hO.at_.below
  have hsz := hg.size
  have hfew := hg.few
  have HGG := hid hG
  have c2 : w.cell? ⟨g.ob, 2, none⟩ = some (.int .i64 (G : Int)) := by rw [← hG]; exact hO.at_.rk.out.cell 2
  have hob := hO.at_.rk.out.lt
  obtain ⟨N2, hN2⟩ : ∃ N2, N2 = 2 * G := ⟨_, rfl⟩
  have hmul : 2 * (G : Int) = (N2 : Int) := by omega
  rw [← hN2] at HR ⊢
  have HN2 := hid hN2
  have hN2b : N2 ≤ 200000 := by omega
  clear hg hO hbi hR hst hG hN2
  go_enter Tryz.func44, Tryz.ntmps44
  go_wp2_with fail
  have KA : Hid (Kept Nil w ((w.alloc (.cells #[.int .i64 0, .int .i64 0, .slice none 0 0, .string ⟨#[]⟩] 45)).alloc (.cells #[.int .i64 (-1)] 3))) := ((Kept.refl Nil w).alloc _).alloc _
  have BX : Hid (Blk ((w.alloc (.cells #[.int .i64 0, .int .i64 0, .slice none 0 0, .string ⟨#[]⟩] 45)).alloc (.cells #[.int .i64 (-1)] 3)) w.heap.size #[.int .i64 0, .int .i64 0, .slice none 0 0, .string ⟨#[]⟩] 45) := (Blk.new w _ _).alloc _
  have cm : ((w.alloc (.cells #[.int .i64 0, .int .i64 0, .slice none 0 0, .string ⟨#[]⟩] 45)).alloc (.cells #[.int .i64 (-1)] 3)).cell? ⟨w.heap.size + 1, 0, none⟩ = some (.int .i64 (-1)) := by
    have := (Blk.new (w.alloc (.cells #[.int .i64 0, .int .i64 0, .slice none 0 0, .string ⟨#[]⟩] 45)) #[.int .i64 (-1)] 3).cell 0
    rw [size_alloc1] at this
    exact this
  have hsA : ((w.alloc (.cells #[.int .i64 0, .int .i64 0, .slice none 0 0, .string ⟨#[]⟩] 45)).alloc (.cells #[.int .i64 (-1)] 3)).heap.size = w.heap.size + 1 + 1 := by simp
  have F := hid (repeat_rd ((w.alloc (.cells #[.int .i64 0, .int .i64 0, .slice none 0 0, .string ⟨#[]⟩] 45)).alloc (.cells #[.int .i64 (-1)] 3)) (w.heap.size + 1) N2 cm (by omega))
  refine (F.out).mono ?_
  rintro e w2 ⟨gb, hgb, rfl, hB2, k2⟩
  rw [hsA] at hgb
  have START : Hid (MtR w w2 g gb wf i0 u0 (List.replicate N2 (-1)) (some (j, gsF)) N2) := by
    have k : Kept Nil w w2 := KA.out.trans k2
    refine ⟨hi0, hu0, HR.out, ⟨blk, wd, HO.out.kept k, HBI.out⟩, ?_, by simp, k.mono (fun _ h => h.elim), BX.out.kept k2 (fun h => h)⟩
    have e : intL (List.replicate N2 (-1)) = List.replicate N2 (.int .i64 (-1)) := by unfold intL; simp
    rw [e]
    exact hB2
  have O2 := hid (HO.out.kept (KA.out.trans k2))
  have e4 : w2.cell? ⟨g.ob, 4, none⟩ = some (.int .i64 0) := O2.out.at_.rk.out.cell 4
  have e3 : w2.cell? ⟨g.ob, 3, none⟩ = some (.string g.s) := O2.out.at_.rk.out.cell 3
  have e1 : w2.cell? ⟨g.ob, 1, none⟩ = some (.int .i64 (u0 : Int)) := by rw [← HST.out]; exact O2.out.at_.rk.out.cell 1
  clear hB2 k2 F cm KA BX hsA c2 HO O2 HR HBI
  go_wp2_with fail
  go_big_quiet (fail)
  have e1' : (w2.drewN nq).cell? ⟨g.ob, 1, none⟩ = some (.int .i64 (u0 : Int)) := e1
  have START2 := hid (START.out.keptN ((Kept.refl Nil w2).drewN nq))
  generalize w2.drewN nq = w3 at *
  clear START e1 e3 e4
  go_wp2_with fail
  go_big_quiet (fail)
  have START3 := hid (START2.out.keptN ((Kept.refl Nil w3).drewN nq))
  generalize w3.drewN nq = w4 at *
  clear START2 e1'
  go_wp2_with fail
  go_loopg [9, 10] (((runesOf g.s).length - i0) * (g.ms.length + 1) + u0) (fun kk v9 v10 wr => ∃ (i u : Nat) (gs : List Int), v9 = .int .i64 (bd g.s i : Int) ∧ v10 = .int .i64 (u : Int) ∧ kk = ((runesOf g.s).length - i) * (g.ms.length + 1) + u ∧ Hid (MtR w wr g gb wf i u gs (some (j, gsF)) N2))
  case atStart => exact ⟨i0, u0, _, rfl, rfl, rfl, START3⟩
  case round =>
    obtain ⟨i, u, gs, rfl, rfl, hkk, HM⟩ := hrel
    clear START3
    have hu := HM.out.u_lt
    have hi := HM.out.i_le
    obtain ⟨blk1, wd1, o1, o2⟩ := HM.out.out
    have O1 := hid o1
    have HB1 := hid o2
    have e7 : wr.cell? ⟨g.ob, 7, none⟩ = some (.bool false) := o1.at_.rk.out.cell 7
    have e0 : wr.cell? ⟨g.ob, 0, none⟩ = some (.slice (some ⟨g.mb, 0, none⟩) g.ms.length g.c) := o1.at_.rk.out.cell 0
    obtain ⟨q, ⟨hqv, hqe⟩, hq3, hqc⟩ := o1.at_.rk.sts.at hu
    obtain ⟨d0, d1, d2, d3, d4, d5⟩ := hqc wr o1.at_.rk.sts
    have hSV := o1.at_.rk.svs u hqv hu
    rw [hqe] at hSV
    have INV := hid (HM.out.runs.inv rfl (List.getElem?_eq_getElem hu))
    have HGd := hid (HG.out.good u _ (List.getElem?_eq_getElem hu))
    have HMQ := hid (HG.out.q _ (List.getElem_mem hu))
    generalize hm : g.ms[u] = m at *
    have ek := hSV.k
    have esl := hSV.sl
    have enx := hSV.nx
    have eot := hSV.ot
    clear hm hqc hqe hqv hq3 hSV o1 o2
    obtain ⟨qk, qsa, qsn, qsc, qed, qsl, qnx, qot⟩ := q
    simp only at d0 d1 d2 d3 d4 d5 ek esl enx eot
    subst ek esl enx eot
    have hbdi := bd_le g.s i
    have hmeas : ∀ (i' u' : Nat), u' < g.ms.length → (i < i' ∧ i' ≤ (runesOf g.s).length ∨ i' = i ∧ u' < u) → ((runesOf g.s).length - i') * (g.ms.length + 1) + u' < ((runesOf g.s).length - i) * (g.ms.length + 1) + u := by
      intro i' u' h1 h2
      rcases h2 with ⟨h2, h3⟩ | ⟨rfl, h2⟩
      · have := Nat.mul_le_mul_right (g.ms.length + 1) (show (runesOf g.s).length - i' + 1 ≤ (runesOf g.s).length - i by omega)
        rw [Nat.add_mul] at this
        omega
      · omega
    have HME := hid hmeas
    have HKK := hid hkk
    clear hmeas hkk
    rcases INV.out with ⟨k0, er⟩ | ⟨k1, ht, hn⟩ | ⟨k1, ht, er⟩ | ⟨k2, he, hn⟩ | ⟨k2, he, er⟩ | ⟨k3, hn⟩ | ⟨k4, v, ev, hn⟩ | ⟨k4, hn, ho⟩
    · obtain ⟨rfl, rfl⟩ : j = i ∧ gsF = gs := by cases er; exact ⟨rfl, rfl⟩
      rw [k0] at d0
      have hfw := HFW.out
      have hmono := bd_mono g.s hfw.1
      obtain ⟨mn, hmn⟩ : ∃ mn, m.next = mn := ⟨_, rfl⟩
      have F := hid fun (W : World) => sclone_rd (g.s.extract (bd g.s i0) (bd g.s j)) W (by rw [extract_size g.s _ _ (bd_le g.s j)]; omega)
      clear hfw INV HGd HMQ er
      go_wp2_with fail
      refine (F.out _).mono ?_
      rintro e w5 ⟨rfl, k5⟩
      have bx := HM.out.box.kept k5 (fun h => h)
      have x0 : w5.cell? ⟨w.heap.size, 0, none⟩ = some (.int .i64 0) := bx.cell 0
      have x1 : w5.cell? ⟨w.heap.size, 1, none⟩ = some (.int .i64 0) := bx.cell 1
      have x2 : w5.cell? ⟨w.heap.size, 2, none⟩ = some (.slice none 0 0) := bx.cell 2
      have x3 : w5.cell? ⟨w.heap.size, 3, none⟩ = some (.string ⟨#[]⟩) := bx.cell 3
      have y0 : w5.frozen? ⟨w.heap.size, 0, none⟩ = false := bx.frozen 0
      have y1 : w5.frozen? ⟨w.heap.size, 1, none⟩ = false := bx.frozen 1
      have y2 : w5.frozen? ⟨w.heap.size, 2, none⟩ = false := bx.frozen 2
      have y3 : w5.frozen? ⟨w.heap.size, 3, none⟩ = false := bx.frozen 3
      have BXX := hid bx
      have M5 := hid (HM.out.keptN k5)
      clear k5 bx F
      go_wp2_with fail
      have B6 : Hid (Blk ((((w5.setCell ⟨w.heap.size, 0, none⟩ (.int .i64 (bd g.s i0 : Int))).setCell ⟨w.heap.size, 1, none⟩ (.int .i64 (bd g.s j : Int))).setCell ⟨w.heap.size, 2, none⟩ (.slice (some ⟨gb, 0, none⟩) N2 N2)).setCell ⟨w.heap.size, 3, none⟩ (.string (g.s.extract (bd g.s i0) (bd g.s j)))) w.heap.size #[.int .i64 (bd g.s i0 : Int), .int .i64 (bd g.s j : Int), .slice (some ⟨gb, 0, none⟩) N2 N2, .string (g.s.extract (bd g.s i0) (bd g.s j))] 45) := by
        have := (((BXX.out.setCell 0 (.int .i64 (bd g.s i0 : Int))).setCell 1 (.int .i64 (bd g.s j : Int))).setCell 2 (.slice (some ⟨gb, 0, none⟩) N2 N2)).setCell 3 (.string (g.s.extract (bd g.s i0) (bd g.s j)))
        show Blk _ _ _ _
        simpa using this
      have K6 : Hid (Kept (fun i => i = w.heap.size) w5 ((((w5.setCell ⟨w.heap.size, 0, none⟩ (.int .i64 (bd g.s i0 : Int))).setCell ⟨w.heap.size, 1, none⟩ (.int .i64 (bd g.s j : Int))).setCell ⟨w.heap.size, 2, none⟩ (.slice (some ⟨gb, 0, none⟩) N2 N2)).setCell ⟨w.heap.size, 3, none⟩ (.string (g.s.extract (bd g.s i0) (bd g.s j))))) := ((((Kept.refl (fun i => i = w.heap.size) w5).setCell (p := ⟨w.heap.size, 0, none⟩) (Or.inl rfl) _).setCell (p := ⟨w.heap.size, 1, none⟩) (Or.inl rfl) _).setCell (p := ⟨w.heap.size, 2, none⟩) (Or.inl rfl) _).setCell (p := ⟨w.heap.size, 3, none⟩) (Or.inl rfl) _
      generalize ((((w5.setCell ⟨w.heap.size, 0, none⟩ (.int .i64 (bd g.s i0 : Int))).setCell ⟨w.heap.size, 1, none⟩ (.int .i64 (bd g.s j : Int))).setCell ⟨w.heap.size, 2, none⟩ (.slice (some ⟨gb, 0, none⟩) N2 N2)).setCell ⟨w.heap.size, 3, none⟩ (.string (g.s.extract (bd g.s i0) (bd g.s j)))) = w6 at *
      have z0 : w6.cell? ⟨w.heap.size, 0, none⟩ = some (.int .i64 (bd g.s i0 : Int)) := B6.out.cell 0
      have z1 : w6.cell? ⟨w.heap.size, 1, none⟩ = some (.int .i64 (bd g.s j : Int)) := B6.out.cell 1
      have z2 : w6.cell? ⟨w.heap.size, 2, none⟩ = some (.slice (some ⟨gb, 0, none⟩) N2 N2) := B6.out.cell 2
      have z3 : w6.cell? ⟨w.heap.size, 3, none⟩ = some (.string (g.s.extract (bd g.s i0) (bd g.s j))) := B6.out.cell 3
      refine bodyPost_ret (v := .tuple #[.agg #[.int .i64 (bd g.s i0 : Int), .int .i64 (bd g.s j : Int), .slice (some ⟨gb, 0, none⟩) N2 N2, .string (g.s.extract (bd g.s i0) (bd g.s j))], .bool true]) ?_ rfl ?_
      · rw [results_cell_tmp rfl]
        simp only [Array.getD_eq_getD_getElem?, List.getElem?_toArray, List.getElem?_cons_succ, List.getElem?_cons_zero, Option.getD_some]
        go_simp
      · obtain ⟨blk5, wd5, o5, hb5⟩ := M5.out.out
        exact ⟨gb, rfl, by omega, M5.out.grp.kept K6.out (by omega), blk5, wd5, o5.far HBL.out (K6.out.mono (fun i h => by subst h; exact Nat.le_refl _)), hb5, M5.out.kept.trans' K6.out (fun i hi e => by omega)⟩
    · rw [k1] at d0
      have hN := HGd.out.2.1 k1
      obtain ⟨mn, hmn⟩ : ∃ mn : Nat, m.next = (mn : Int) := ⟨m.next.toNat, by omega⟩
      rw [hmn] at d4 hn
      have hil : i < (runesOf g.s).length := by
        have : (decide (i < (txOf g.s).l.length) && takesC m.sp m.fo m.nt ((txOf g.s).rune i)) = true := ht
        simp at this
        exact this.1
      have hmnl : mn < g.ms.length := by omega
      have F := width_bd wr g.s i hil hsz O1.out.at_.rk.tabs
      obtain ⟨wdt, hwd⟩ : ∃ wdt, wdt = (bd g.s (i + 1) : Int) - (bd g.s i : Int) := ⟨_, rfl⟩
      rw [← hwd] at F
      have hadd : (bd g.s i : Int) + wdt = (bd g.s (i + 1) : Int) := by omega
      have hbd1 := bd_le g.s (i + 1)
      have HN := hid hn
      have F := hid F
      clear hn ht INV HGd HMQ hmn hN hwd
      go_wp2_with fail
      refine (F.out).mono ?_
      rintro e w5 ⟨rfl, k5⟩
      have FIN := hid ((HM.out.keptN k5).go (i' := i + 1) (u' := mn) (by omega) hil hmnl HN.out)
      clear k5 F
      go_wp2_with fail
      go_roundg (((runesOf g.s).length - (i + 1)) * (g.ms.length + 1) + mn)
      case measure => exact Nat.lt_of_lt_of_eq (HME.out _ _ hmnl (Or.inl ⟨by omega, hil⟩)) HKK.out.symm
      case rel => exact ⟨i + 1, mn, gs, rfl, rfl, rfl, FIN⟩
    · cases er
    · rw [k2] at d0
      have hN := HGd.out.2.2.1 (by omega)
      obtain ⟨mn, hmn⟩ : ∃ mn : Nat, m.next = (mn : Int) := ⟨m.next.toNat, by omega⟩
      rw [hmn] at d4 hn
      have hmnu : mn < u := by omega
      have FIN := hid (HM.out.go (i' := i) (u' := mn) (Nat.le_refl _) hi (by omega) hn)
      clear hn he INV HGd HMQ hmn hN
      go_wp2_with fail
      go_roundg (((runesOf g.s).length - (i)) * (g.ms.length + 1) + mn)
      case measure => exact Nat.lt_of_lt_of_eq (HME.out _ _ (by omega) (Or.inr ⟨rfl, hmnu⟩)) HKK.out.symm
      case rel => exact ⟨i, mn, gs, rfl, rfl, rfl, FIN⟩
    · cases er
    · rw [k3] at d0
      have hN := HGd.out.2.2.1 (by omega)
      have hSl := HMQ.out.2.1 k3
      obtain ⟨mn, hmn⟩ : ∃ mn : Nat, m.next = (mn : Int) := ⟨m.next.toNat, by omega⟩
      obtain ⟨sl, hsl⟩ : ∃ sl : Nat, m.slot = (sl : Int) := ⟨m.slot.toNat, by omega⟩
      rw [hmn] at d4 hn
      rw [hsl] at d3 hn
      have hmnu : mn < u := by omega
      have hsl2 : sl < N2 := by have := HN2.out; have := HGG.out; omega
      have hlen := HM.out.len
      have fgb : wr.frozen? ⟨gb, sl, none⟩ = false := HM.out.grp.frozen sl
      have cgb : wr.cell? ⟨gb, sl, none⟩ = some (.int .i64 (gs.getD sl 0)) := by
        have := HM.out.grp.cell sl
        rw [this]
        unfold intL
        simp [List.getD_eq_getElem?_getD, List.getElem?_eq_getElem (show sl < gs.length by omega)]
      have FIN : Hid (MtR w (wr.setCell ⟨gb, sl, none⟩ (.int .i64 (bd g.s i : Int))) g gb wf i mn (gs.set sl (bd g.s i)) (some (j, gsF)) N2) := by
        have k : Kept (fun i => i = gb) wr (wr.setCell ⟨gb, sl, none⟩ (.int .i64 (bd g.s i : Int))) := (Kept.refl (fun i => i = gb) wr).setCell (p := ⟨gb, sl, none⟩) (Or.inl rfl) _
        have hgr := HM.out.grp.setCell sl (.int .i64 (bd g.s i : Int))
        rw [intL_set] at hgr
        refine ⟨hi, by omega, ?_, ⟨blk1, wd1, O1.out.far HBL.out (k.mono (fun i h => by subst h; omega)), HB1.out⟩, hgr, by rw [List.length_set]; exact hlen, HM.out.kept.trans' k (fun i hi e => by omega), HM.out.box.kept k (by omega)⟩
        have := hn
        rw [bound_bd] at this
        simpa using this
      clear hn INV HGd HMQ hmn hsl hN hSl hlen
      go_wp2_with fail
      go_roundg (((runesOf g.s).length - (i)) * (g.ms.length + 1) + mn)
      case measure => exact Nat.lt_of_lt_of_eq (HME.out _ _ (by omega) (Or.inr ⟨rfl, hmnu⟩)) HKK.out.symm
      case rel => exact ⟨i, mn, gs.set sl (bd g.s i), rfl, rfl, rfl, FIN⟩
    · rw [k4] at d0
      have hN := HGd.out.2.2.1 (by omega)
      obtain ⟨mn, hmn⟩ : ∃ mn : Nat, m.next = (mn : Int) := ⟨m.next.toNat, by omega⟩
      rw [hmn] at d4 hn
      have hmnu : mn < u := by omega
      have F := comesOff_rd HG.out O1.out (u := mn) (by omega) hi HB1.out
      rw [off_true hn] at F
      have F := hid F
      rw [← ev] at hn
      have HN := hid hn
      clear hn ev INV HGd HMQ hmn hN
      go_wp2_with fail
      refine (F.out).mono ?_
      rintro e w5 ⟨rfl, blk5, wd5, o5, hb5, k5⟩
      have FIN : Hid (MtR w w5 g gb wf i mn gs (some (j, gsF)) N2) := ⟨hi, by omega, HN.out, ⟨blk5, wd5, o5, hb5⟩, HM.out.grp.kept k5 (by have := HBL.out; unfold OG.below at this; omega), HM.out.len, HM.out.kept.trans k5, HM.out.box.kept k5 (by have := HBL.out; unfold OG.below at this; omega)⟩
      clear o5 hb5 k5 F
      go_wp2_with fail
      go_roundg (((runesOf g.s).length - (i)) * (g.ms.length + 1) + mn)
      case measure => exact Nat.lt_of_lt_of_eq (HME.out _ _ (by omega) (Or.inr ⟨rfl, hmnu⟩)) HKK.out.symm
      case rel => exact ⟨i, mn, gs, rfl, rfl, rfl, FIN⟩
    · rw [k4] at d0
      have hN := HGd.out.2.2.1 (by omega)
      have hN2' := HGd.out.2.2.2 k4
      obtain ⟨mn, hmn⟩ : ∃ mn : Nat, m.next = (mn : Int) := ⟨m.next.toNat, by omega⟩
      obtain ⟨mo, hmo⟩ : ∃ mo : Nat, m.other = (mo : Int) := ⟨m.other.toNat, by omega⟩
      rw [hmn] at d4 hn
      rw [hmo] at d5 ho
      have hmnu : mn < u := by omega
      have hmou : mo < u := by omega
      have F := comesOff_rd HG.out O1.out (u := mn) (by omega) hi HB1.out
      rw [off_false hn] at F
      have F := hid F
      have HN := hid ho
      clear hn ho INV HGd HMQ hmn hmo hN hN2'
      go_wp2_with fail
      refine (F.out).mono ?_
      rintro e w5 ⟨rfl, blk5, wd5, o5, hb5, k5⟩
      have FIN : Hid (MtR w w5 g gb wf i mo gs (some (j, gsF)) N2) := ⟨hi, by omega, HN.out, ⟨blk5, wd5, o5, hb5⟩, HM.out.grp.kept k5 (by have := HBL.out; unfold OG.below at this; omega), HM.out.len, HM.out.kept.trans k5, HM.out.box.kept k5 (by have := HBL.out; unfold OG.below at this; omega)⟩
      have g5 : w5.cell? ⟨g.mb, u * 6 + 5, none⟩ = some (.int .i64 (mo : Int)) := (k5.cell (p := ⟨g.mb, u * 6 + 5, none⟩) O1.out.at_.rk.sts.lt (by have h1 := HG.out.apO.1; have h2 := HG.out.apW.2.1; show ¬ (g.mb = g.ob ∨ g.mb = g.WB); omega)).trans d5
      clear o5 hb5 k5 F
      go_wp2_with fail
      go_roundg (((runesOf g.s).length - (i)) * (g.ms.length + 1) + mo)
      case measure => exact Nat.lt_of_lt_of_eq (HME.out _ _ (by omega) (Or.inr ⟨rfl, hmou⟩)) HKK.out.symm
      case rel => exact ⟨i, mo, gs, rfl, rfl, rfl, FIN⟩
end Go.Proofs.YtnbfddjaonlmaaaGreatDoor
