/- For every pattern and all options: the law Opens (promises P6, P7) returns true: Open tells the error that the document's reading and the options' bounds tell, and makes a Stream where there is none; the calls on a Stream that Open did not make answer that it is closed. No condition. The row lists three tables of Go's library, tied to the program's text by the card: the tie is given. The frame of this text is the guide's worked example (WalkKit, the card's one call). -/
import Derived.Test.YtfollffpibmgcaaGreatDoorRows
import Derived.Test.YtfollffpibmgcaaGreatDoorCards
import Derived.Test.YtfollffpibmgcaaGreatDoorTie
import Derived.Test.YtfollffpibmgcaaGreatDoorP52
import Derived.WalkKit
import Derived.ProofKit
import Derived.OpenShut
import Derived.ShutString
import Derived.LaidMore
import Derived.Lay
import Derived.SevenTiedAt
import Derived.Stop.Joined
import Derived.Lib.SmallJoins
namespace Go.Proofs.YtfollffpibmgcaaGreatDoor.opens
open Go.ChangeShapes Go.WideShapes Go.ChangeAt Go.RowKit
open Go.ChangeMaps (open_string shut_string)
open Go.Joins
set_option linter.unusedVariables false
set_option maxRecDepth 100000
theorem own : ownKnob Tryz.prog.godebug = none := by kernel_rfl
theorem Tryz.cellsOpt : Tryz.prog.cellsOf 23 = 3 := by kernel_rfl
theorem walk (a0 : ByteArray) (w0 : a0.size ≤ maxLen) (o1 o2 o3 : Int) (w : World) :
  Calls Tryz.prog 3 #[.string a0, .agg #[.int .i64 o1, .int .i64 o2, .int .i64 o3]] w fun e w' => e = .returned (.bool true) ∧ Kept Nil w w' := opens_walk a0 w w0 o1 o2 o3
theorem reads {H : Type} {enc : TypeId × Value → H} {W : World} {b : Nat} {sp : Nat → Bool} {hd : Bool} {o1 o2 o3 : Int} (w1 : (Lit.int .i64 o1).wf = true) (w2 : (Lit.int .i64 o2).wf = true) (w3 : (Lit.int .i64 o3).wf = true) :
  DataW.Trod enc Tryz.prog W b sp hd 23 (.agg #[.int .i64 o1, .int .i64 o2, .int .i64 o3]) (.agg [.lit (.int .i64 o1), .lit (.int .i64 o2), .lit (.int .i64 o3)]) [] := by
 simpa using shut_agg3 (enc := enc) (w := W) (base := b) (spare := sp) (held := hd) (y0 := (.lit (.int .i64 o1), [])) (y1 := (.lit (.int .i64 o2), [])) (y2 := (.lit (.int .i64 o3), [])) Tryz.underlying23 (by kernel_rfl) Tryz.cellsOpt ⟨1, by simp [DataW.trod, Tryz.underlying3, w1]⟩ ⟨1, by simp [DataW.trod, Tryz.underlying3, w2]⟩ ⟨1, by simp [DataW.trod, Tryz.underlying3, w3]⟩
set_option maxRecDepth 100000 in
theorem lifted (os : Os) (started : os.Started) (H : Type) (enc : TypeId × Value → H) :
  ReturnsInHanded {} Tryz.checked os 3 .any (fun w args => (Rows.opensSpec.pre enc Tryz.prog Tryz.f3 Rows.opensRow.domain false w args ∧ laidMetH Tryz.prog Rows.opensRow.laid w) ∧ sizedMet enc Tryz.prog Tryz.f3 (OpenSpec.ofChange Rows.opensSpec) false w args)
   (Rows.opensSpec.post enc Tryz.prog Tryz.f3 false true false false) := by
 refine returnsInHanded_of_change_and (C := Tryz.checked) (X := fun w _ => laidMetH Tryz.prog Rows.opensRow.laid w) (fun _ _ _ hh h => h.of_heap hh) own started (by kernel_rfl) Tryz.func3
  (ChangeSpec.witness_shaped (enc := enc) (C := Tryz.checked) (os := os) (X := fun w _ => laidMetH Tryz.prog Rows.opensRow.laid w) false (World.laidAll Tryz.prog os Rows.opensRow.laid) #[.string ByteArray.empty, .agg #[.int .i64 0, .int .i64 0, .int .i64 0]] 8 (World.laidAll_os _ _ _)
   (World.shaped_of_ZipB (by kernel_rfl) (by kernel_rfl)) (by kernel_rfl) (by kernel_rfl) (by kernel_rfl)
   (by rw [MakeChecks.laidMetH_plain _ _ _ (by kernel_rfl)]; exact laidMet_laidAll _ (by kernel_rfl) (by kernel_rfl))) ?_
 intro W base args ds gs before hval0 hW _ _ hL _
 have hval : ∀ (j : Nat) t v, Tryz.f3.params[j]? = some t → args[j]? = some v → Value.okWide Tryz.prog W .any base t v := hval0
 have hW' := hW
 obtain ⟨p, q, hA0, hV, rfl, hfz, hnd⟩ := hW
 have hA : DataW.TrodAll enc Tryz.prog W 0 (fun _ => true) true Tryz.f3.params.toList args.toList ds p := hA0
 rw [Tryz.params3] at hA hval
 obtain ⟨v0, vs0, d0, ds0, p0, q0, hargs, rfl, rfl, h0, r0⟩ := trodAll_cons hA
 obtain ⟨v1, vs1, d1, ds1, p1, q1, hargs1, rfl, rfl, h1, r1⟩ := trodAll_cons r0
 obtain ⟨rfl, rfl, rfl⟩ := trodAll_nil r1
 obtain rfl : args = #[v0, v1] := by cases args; simp_all
 obtain ⟨rfl, rfl⟩ := trodVars_none hV
 obtain ⟨a0, rfl, rfl, rfl, w0⟩ := open_string Tryz.underlying9 (hval 0 9 v0 rfl rfl) h0
 obtain ⟨e0, e1, e2, y0, y1, y2, m, rfl, rfl, rfl, hy0, hy1, hy2⟩ := open_agg3 Tryz.underlying23 (by kernel_rfl) Tryz.cellsOpt (hval 1 23 v1 rfl rfl) h1
 obtain ⟨o1, g1, rfl, x1⟩ := DataW.trod_int Tryz.underlying3 hy0
 obtain ⟨o2, g2, rfl, x2⟩ := DataW.trod_int Tryz.underlying3 hy1
 obtain ⟨o3, g3, rfl, x3⟩ := DataW.trod_int Tryz.underlying3 hy2
 simp at g1 g2 g3
 subst g1 g2 g3
 clear hA0 hval0
 simp only [List.append_nil] at hW'
 refine (walk a0 w0 o1 o2 o3 W).mono fun e W' ⟨he, hg⟩ => ?_
 subst he
 exact ⟨_, rfl, post_nil hW' (fun _ _ _ => (trodAll_cons_mk (shut_bool Tryz.underlying4 _) trodAll_mk0)) (fun sp => (trodAll_cons_mk (shut_string Tryz.underlying9 w0) (trodAll_cons_mk (reads x1 x2 x3) trodAll_mk0))) (fun _ => rfl)
  hg (ok_one (by kernel_rfl) rfl (okWide_bool_mk Tryz.underlying4 _))⟩
theorem over : Rows.opensRow.holds Tryz.pinned (OpenSpec.ofChange Rows.opensSpec) :=
 OpenClaim.holds_of_wide 3 Tryz.f3 rfl rfl rfl rfl rfl rfl rfl ⟨rfl, rfl, rfl, rfl, rfl⟩ rfl rfl rfl rfl rfl (by kernel_rfl) Tryz.func3 (by kernel_rfl)
  (of_decide_eq_true (by kernel_rfl)) (by unfold Func.isWrapper; first | (rw [if_pos (by decide +kernel)]; kernel_rfl) | (rw [if_neg (by decide +kernel)]; exact ⟨rfl, rfl⟩))
  (fun os started H enc _ => lifted os started H enc)
theorem proved : Rows.OpensCardSaid :=
 Claim7.holds_tied_plain_at .later [] [.data, .pinned, .pinned] true Rows.opensCard.stood.harness false over (fun _ h => by cases h) (by kernel_rfl) (fun _ h => by cases h) opens_row_tie rfl ⟨rfl, rfl⟩ (by kernel_rfl) rfl
  (fun f fn hf hfn => by
   obtain rfl : f = 3 := Option.some.inj ((show Tryz.prog.funcNamed Rows.opensRow.func = some 3 by kernel_rfl).symm.trans hf) |>.symm
   obtain rfl : fn = Tryz.f3 := (Option.some.inj (Tryz.func3.symm.trans hfn)).symm
   exact ⟨by kernel_rfl, fun j t ht => by
    rw [Tryz.params3] at ht
    have hm : t ∈ [9, 23] := by simpa using Array.mem_of_getElem? ht
    have hall : ([9, 23].all fun u => !Tryz.prog.wantsStandIn u) = true := by kernel_rfl
    exact (show Tryz.prog.wantsStandIn t = false by simpa using List.all_eq_true.1 hall t hm)⟩)
  (by kernel_rfl)
#print axioms proved
end Go.Proofs.YtfollffpibmgcaaGreatDoor.opens
