/- The closed facts of the whole program, asked once; each law then asks its own. -/
import Derived.Test.YtdhakbpimbadgaaRows
import Derived.ProofKit
import Derived.JoinedOf
namespace Go.Proofs.Ytdhakbpimbadgaa
open Go
set_option maxRecDepth 100000
def initCodes : List Nat := [
  104, 97, 114, 110, 101, 115, 115, 32, 100, 57, 100, 50, 49, 98, 49, 56, 50, 97, 52, 101, 48, 53, 57, 51, 98, 99, 53, 52, 102, 48, 49, 50, 102, 50, 102, 57, 49, 51, 100, 54,
  98, 49, 98, 52, 97, 100, 57, 55, 51, 98, 56, 97, 99, 101, 99, 98, 48, 102, 98, 54, 98, 50, 100, 54, 101, 102, 48, 48, 48, 53, 50, 53, 32, 99, 117, 116, 32, 97, 116, 32,
  108, 111, 111, 112, 46, 101, 120, 97, 109, 112, 108, 101, 47, 117, 110, 100, 101, 114, 118, 101, 105, 108, 47, 108, 97, 119, 115, 46, 70, 110, 69, 120, 97, 99, 116, 69, 105, 116, 104, 101,
  114, 77, 97, 107, 101, 32, 108, 111, 111, 112, 46, 101, 120, 97, 109, 112, 108, 101, 47, 117, 110, 100, 101, 114, 118, 101, 105, 108, 47, 108, 97, 119, 115, 46, 70, 110, 69, 120, 97, 99,
  116, 82, 105, 110, 103, 83, 105, 103, 110, 32, 108, 111, 111, 112, 46, 101, 120, 97, 109, 112, 108, 101, 47, 117, 110, 100, 101, 114, 118, 101, 105, 108, 47, 108, 97, 119, 115, 46, 70, 110,
  69, 120, 97, 99, 116, 76, 105, 110, 107, 83, 105, 103, 110, 32, 108, 111, 111, 112, 46, 101, 120, 97, 109, 112, 108, 101, 47, 117, 110, 100, 101, 114, 118, 101, 105, 108, 47, 108, 97, 119,
  115, 46, 70, 110, 69, 105, 116, 104, 101, 114, 77, 97, 107, 101, 32, 108, 111, 111, 112, 46, 101, 120, 97, 109, 112, 108, 101, 47, 117, 110, 100, 101, 114, 118, 101, 105, 108, 47, 108, 97,
  119, 115, 46, 70, 110, 69, 105, 116, 104, 101, 114, 71, 111, 111, 100, 32, 108, 111, 111, 112, 46, 101, 120, 97, 109, 112, 108, 101, 47, 117, 110, 100, 101, 114, 118, 101, 105, 108, 47, 108,
  97, 119, 115, 46, 70, 110, 82, 105, 110, 103, 83, 105, 103, 110, 32, 108, 111, 111, 112, 46, 101, 120, 97, 109, 112, 108, 101, 47, 117, 110, 100, 101, 114, 118, 101, 105, 108, 47, 108, 97,
  119, 115, 46, 70, 110, 76, 105, 110, 107, 83, 105, 103, 110]
theorem init_is : Try.prog.initOrder = String.ofList (initCodes.map Char.ofNat) := by kernel_rfl
theorem init_list : Try.prog.initOrder.toList = initCodes.map Char.ofNat := by rw [init_is]; exact String.toList_ofList
theorem door_words : ∃ r, behindMainWord (wordsSigns Try.prog.initOrder.toList) = "cut".toList :: r := by rw [init_list]; exact ⟨(behindMainWord (wordsSigns (initCodes.map Char.ofNat))).tail, by kernel_rfl⟩
theorem make_of {P : Program} {r : List (List Char)} (h : behindMainWord (wordsSigns P.initOrder.toList) = "cut".toList :: r) : P.make = some .cut := by unfold Program.make; rw [h]; kernel_rfl
theorem lifts_of {P : Program} {r : List (List Char)} (h : behindMainWord (wordsSigns P.initOrder.toList) = "cut".toList :: r) : P.liftsFinal = false := by unfold Program.liftsFinal Program.headLifts; rw [h]; kernel_rfl
theorem enter_of {P : Program} {r : List (List Char)} (h : behindMainWord (wordsSigns P.initOrder.toList) = "cut".toList :: r) (h1 : P.laysLater = false) (h2 : P.bearsReflect = false) (h3 : P.doorFits [] = true) : P.mayEnter = true := by
  unfold Program.mayEnter; rw [h]
  have e1 : (stripLifts liftWords ("cut".toList :: r)).2.head? = some "cut".toList := by kernel_rfl
  have e2 : (stripLifts liftWords ("cut".toList :: r)).1 = [] := by kernel_rfl
  dsimp only
  rw [e1, e2, h1, h2, h3]; simp
theorem row_make : Rows.fnExactEitherMakeRow.make = .cut := by kernel_rfl
theorem row_lifted : Rows.fnExactEitherMakeRow.lifted = false := by kernel_rfl
theorem door_make : Try.prog.make = some Rows.fnExactEitherMakeRow.make := by obtain ⟨r, h⟩ := door_words; exact (make_of h).trans (congrArg some row_make.symm)
theorem door_lifts : Try.prog.liftsFinal = Rows.fnExactEitherMakeRow.lifted := by obtain ⟨r, h⟩ := door_words; exact (lifts_of h).trans row_lifted.symm
theorem door_later : Try.prog.laysLater = false := by kernel_rfl
theorem door_reflect : Try.prog.bearsReflect = false := by kernel_rfl
theorem door_fits : Try.prog.doorFits [] = true := by kernel_rfl
theorem door_enter : Try.prog.mayEnter = true := by obtain ⟨r, h⟩ := door_words; exact enter_of h door_later door_reflect door_fits
theorem door_laid : laidOutB Try.prog = true := by kernel_rfl
theorem door_maps : mapsRowed Try.prog = true := by kernel_rfl
theorem door_stops : (Try.prog.stops == []) = true := by kernel_rfl
theorem door_knobs : (Try.prog.stopKnobs == []) = true := by kernel_rfl
theorem door_heard : Try.prog.stopsHeard = true := by kernel_rfl
theorem door_keys : Try.prog.plainKeys = Rows.fnExactEitherMakeRow.plainKeys := by kernel_rfl
/-- what a law asks for itself -/
def ownFacts (P : Program) (f : FuncId) (fn : Func) (s : ChangeSpec) (c : OpenClaim) : Bool :=
  c.wf (OpenSpec.ofChange s) && fn.params.all (P.readableRec ·) && namedTie P c.named s.vars && (c.stops == []) && (c.knobs == []) &&
  (c.inPlace == P.inPlace f) && (c.unfollowed == P.unfollowed f) && (c.recurses == P.recurses f) && (c.named == P.varsNamed f) &&
  (c.maps == (fn.params.toList ++ s.plain.varTypes P).any (P.mapsRec ·)) && (c.ifaces == (fn.params.toList ++ s.plain.varTypes P).any (P.ifacesRec ·)) && (c.mapsOut == P.mapsAmong fn.resultTypes.toList) &&
  (c.loops == (fn.params.toList ++ s.plain.varTypes P).any (P.loopsFrom ·)) && (c.wideKeys == (fn.params.toList ++ s.plain.varTypes P ++ fn.resultTypes.toList).any (P.wideKeysFrom ·)) &&
  s.vars.all (P.varReadable ·) && fn.resultTypes.all (fun t => P.readableRec t && decide (t < P.types.size)) && (c.ifacesOut == fn.resultTypes.toList.any (P.ifacesRec ·)) && (c.loopsOut == fn.resultTypes.toList.any (P.loopsFrom ·)) && c.shortTexts.isNone &&
  (c.kinds == (if c.domain.isEmpty then [] else fn.params.toList.map fun t => match P.underlying t with | some (.int k) => some k | _ => none)) && (c.pinned == c.pinnedBy) &&
  (c.veiled == (fn.params.toList ++ s.plain.varTypes P ++ fn.resultTypes.toList).any (P.veiledRec ·)) && c.veiledFits P fn.params.toList (fn.params.toList ++ s.plain.varTypes P ++ fn.resultTypes.toList) &&
  (c.plainKeys == Rows.fnExactEitherMakeRow.plainKeys) && (c.lifted == Rows.fnExactEitherMakeRow.lifted) && (c.make == Rows.fnExactEitherMakeRow.make)
theorem joined_of {f : FuncId} {fn : Func} {s : ChangeSpec} {c : OpenClaim} (h : ownFacts Try.prog f fn s c = true) : joinedFacts Try.prog f fn s c = true := by
  unfold ownFacts at h
  simp only [Bool.and_eq_true, beq_iff_eq] at h
  obtain ⟨⟨⟨⟨⟨⟨⟨⟨⟨⟨⟨⟨⟨⟨⟨⟨⟨⟨⟨⟨⟨⟨⟨⟨⟨k1, k4⟩, k5⟩, k6⟩, k8⟩, k10⟩, k11⟩, k12⟩, k13⟩, k14⟩, k15⟩, k16⟩, k17⟩, k17b⟩, k18⟩, k19⟩, k20⟩, k21⟩, k23⟩, k25⟩, k26⟩, k27⟩, k28⟩, m1⟩, m2⟩, m3⟩ := h
  unfold joinedFacts
  simp only [Bool.and_eq_true, beq_iff_eq]
  exact ⟨⟨⟨⟨⟨⟨⟨⟨⟨⟨⟨⟨⟨⟨⟨⟨⟨⟨⟨⟨⟨⟨⟨⟨⟨⟨⟨⟨⟨⟨⟨k1, door_laid⟩, door_maps⟩, k4⟩, k5⟩, k6⟩, by have := door_stops; simpa using this⟩, k8⟩, by have := door_knobs; simpa using this⟩, k10⟩, k11⟩, k12⟩, k13⟩, k14⟩, k15⟩, k16⟩, k17⟩, k17b⟩, k18⟩, k19⟩, k20⟩, k21⟩, m1.trans door_keys.symm⟩, k23⟩, door_heard⟩, door_enter⟩, m2.trans door_lifts.symm⟩, by rw [door_make, m3]⟩, k25⟩, k26⟩, k27⟩, k28⟩
end Go.Proofs.Ytdhakbpimbadgaa
