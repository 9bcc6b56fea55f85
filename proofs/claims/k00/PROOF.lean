import PyProof.Rows.All
import Wide.All
import OpenK.AllK
import Wide.FinOn
import HandS.ForExc
import HandS.Comp
import HandS.EndBits
import HandS.Wide
import HandS.ExcInit
import HandS.ExcValue
import HandS.IsInst
import HandS.Style
import HandS.Flow
import HandS.Defaults
import KE.KExcIs
import PySem.Challenge.RW_alreadytold_k00_errors_side_by_side
import HandS.Head0
import HandS.Head1
import HandS.Head2
import HandS.HeadEnd
import HandS.HeadHook1
import HandS.HeadHook2
import HandS.HeadHook3
import HandS.HeadHook4
import HandS.ExcIs
import PyProof.P3Eq
set_option Elab.async false
set_option linter.all false
set_option maxRecDepth 100000
set_option maxHeartbeats 4000000
namespace K00
open PySem L2
def top (i : Nat) : Stmt := PySem.Challenge.pw_alreadytold_k00_errors_side_by_side.main.body.getD i (.Pass ⟨0, 0, 0, 0⟩)

abbrev s_law_hand : Stmt := top 63
theorem sc_law_hand : FnScope ["_law_script", "_law_total", "_law_cells", "_law_cell"] ["_law_script"] (defScope s_law_hand) := ⟨rfl, rfl, rfl, by decide +kernel, rfl, by decide +kernel, by decide +kernel⟩

abbrev s_law_mixed : Stmt := top 64
theorem sc_law_mixed : FnScope ["_law_number", "_law_turn", "_law_once", "_law_twice"] ["_law_number", "_law_turn"] (defScope s_law_mixed) := ⟨rfl, rfl, rfl, by decide +kernel, rfl, by decide +kernel, by decide +kernel⟩

abbrev s_law_take : Stmt := top 65
theorem sc_law_take : FnScope ["_law_hand_here", "_law_many", "_law_cell", "_law_rest"] ["_law_hand_here", "_law_many"] (defScope s_law_take) := ⟨rfl, rfl, rfl, by decide +kernel, rfl, by decide +kernel, by decide +kernel⟩

abbrev s_law_pairs : Stmt := top 66
theorem sc_law_pairs : FnScope ["_law_a", "_law_b", "_law_one", "_law_kept", "_law_two"] ["_law_a", "_law_b"] (defScope s_law_pairs) := ⟨rfl, rfl, rfl, by decide +kernel, rfl, by decide +kernel, by decide +kernel⟩

abbrev s_law_first : Stmt := top 67
theorem sc_law_first : FnScope ["_law_a", "_law_one", "_law_kept", "_law_two", "_law_three"] ["_law_a"] (defScope s_law_first) := ⟨rfl, rfl, rfl, by decide +kernel, rfl, by decide +kernel, by decide +kernel⟩

abbrev s_law_second : Stmt := top 68
theorem sc_law_second : FnScope ["_law_a", "_law_one", "_law_kept", "_law_two", "_law_three"] ["_law_a"] (defScope s_law_second) := ⟨rfl, rfl, rfl, by decide +kernel, rfl, by decide +kernel, by decide +kernel⟩

abbrev s_law_kinds : Stmt := top 69
theorem sc_law_kinds : FnScope ["_law_e", "_law_rows"] ["_law_e"] (defScope s_law_kinds) := ⟨rfl, rfl, rfl, by decide +kernel, rfl, by decide +kernel, by decide +kernel⟩

abbrev slaw : Stmt := top 70
theorem sclaw : FnScope ["_law_script", "_law_hand_here", "_law_a", "_law_b", "_law_pairs_here", "_law_kept", "_law_found", "_law_part", "_law_at", "_law_other", "_law_kind"] ["_law_script"] (defScope slaw) := ⟨rfl, rfl, rfl, by decide +kernel, rfl, by decide +kernel, by decide +kernel⟩

abbrev sI_BadRatio : Stmt := inClass (top 2) 0
abbrev sI_NoFilling : Stmt := inClass (top 3) 0
abbrev sI_BadBox : Stmt := inClass (top 4) 0
abbrev sI_BadChart : Stmt := inClass (top 5) 0
abbrev sI_NoSuchBox : Stmt := inClass (top 6) 0
abbrev sI_NoWire : Stmt := inClass (top 7) 0
abbrev sI_BadIns : Stmt := inClass (top 8) 0
abbrev sI_BadPost : Stmt := inClass (top 9) 0
abbrev sI_ChanceBox : Stmt := inClass (top 10) 0
abbrev sI_BadNaming : Stmt := inClass (top 11) 0
abbrev sI_BadOrder : Stmt := inClass (top 12) 0
abbrev sI_BadDays : Stmt := inClass (top 13) 0
abbrev sI_BadText : Stmt := inClass (top 14) 0
abbrev sI_TooMany : Stmt := inClass (top 15) 0
abbrev sI_NoStory : Stmt := inClass (top 16) 0
abbrev sI_HasStory : Stmt := inClass (top 17) 0
abbrev sI_BadCounts : Stmt := inClass (top 18) 0
abbrev sI_NoLetter : Stmt := inClass (top 19) 0
abbrev sI_BadSurrounding : Stmt := inClass (top 20) 0
abbrev sI_OtherWires : Stmt := inClass (top 21) 0
abbrev sI_NoBox : Stmt := inClass (top 22) 0
abbrev sI_BadTable : Stmt := inClass (top 23) 0
abbrev sI_BadLot : Stmt := inClass (top 24) 0
abbrev sI_NoRing : Stmt := inClass (top 25) 0
abbrev sI_BadTurns : Stmt := inClass (top 26) 0
abbrev sI_BadShares : Stmt := inClass (top 27) 0
abbrev sI_BadWeights : Stmt := inClass (top 28) 0
abbrev sI_NotStaying : Stmt := inClass (top 29) 0
abbrev sI_BadOuts : Stmt := inClass (top 30) 0
abbrev sI_BadShare : Stmt := inClass (top 31) 0
abbrev sI_BadSlip : Stmt := inClass (top 32) 0
abbrev sI_BadNear : Stmt := inClass (top 33) 0
abbrev sI_BadTold : Stmt := inClass (top 34) 0
abbrev sI_BadNames : Stmt := inClass (top 35) 0
abbrev sI_NotKnown : Stmt := inClass (top 36) 0
abbrev sI_NotMade : Stmt := inClass (top 37) 0
abbrev sI_NotLeft : Stmt := inClass (top 38) 0
abbrev sI_NoKey : Stmt := inClass (top 39) 0
abbrev sI_BadCustom : Stmt := inClass (top 40) 0
abbrev sI_BadWish : Stmt := inClass (top 41) 0
abbrev sI_NotOneBox : Stmt := inClass (top 42) 0
abbrev sI_BadChanges : Stmt := inClass (top 43) 0
abbrev sI_BadHouse : Stmt := inClass (top 44) 0
abbrev sI_BadHand : Stmt := inClass (top 45) 0
abbrev sI_BadLetter : Stmt := inClass (top 46) 0
abbrev sI_BadExchange : Stmt := inClass (top 47) 0
abbrev sI_BadDay : Stmt := inClass (top 48) 0
abbrev sI_NoDayStory : Stmt := inClass (top 49) 0
abbrev sI_BadRound : Stmt := inClass (top 50) 0
abbrev sI_OtherLetters : Stmt := inClass (top 51) 0
abbrev sI_BadFinder : Stmt := inClass (top 52) 0
abbrev sI_BadGaps : Stmt := inClass (top 53) 0
abbrev sI_NotIn : Stmt := inClass (top 54) 0
abbrev sI_BadManner : Stmt := inClass (top 55) 0
abbrev sI_BadLook : Stmt := inClass (top 56) 0
abbrev sI_BadPool : Stmt := inClass (top 57) 0
abbrev sI_BadEdits : Stmt := inClass (top 58) 0
abbrev sI_BadGoal : Stmt := inClass (top 59) 0
abbrev sI_NothingLeft : Stmt := inClass (top 60) 0
abbrev sI_StillTrial : Stmt := inClass (top 61) 0
/-- a def as it stands behind the top: where, its facts -/
structure Fn (K : PySem.W.Frag) (mg : Str → Option Value) (x : Str) (st : Stmt) (ps : List Str) where
  f : Addr
  fd : FuncData
  F : Fun K x x st f fd
  g : mg x = some (.ref f)
  b : Binds K fd ps []
end K00
set_option Elab.async false
set_option linter.all false
set_option maxRecDepth 100000
set_option maxHeartbeats 0
namespace K00
open PySem PySem.Spec PyProof.Rows L2
abbrev ga := He.ga
abbrev ma := He.ma
/-- the facts of a class of errors, as one look -/
def clsB (K : PySem.W.Frag) (x : Str) (tl : List Value) (fs : List Str) : Bool := match K.lookup (ga K x) with
  | some ⟨.type "type", _, .cls cd, sl⟩ => decide (cd.name = x) && (decide (cd.mro = .ref (ga K x) :: tl) && (cd.hasDict && (!cd.hasDel && ((match sl.toList with
      | [_, _, _, _, some (.builtin n), _] => decide (n = "ValueError.__new__")
      | _ => false) && (He.eqO (PySem.W.findIn K (.ref (ga K x)) "__setattr__") (some (some (.builtin "object.__setattr__"))) && (He.eqO (PySem.W.findIn K (.ref (ga K x)) "__getattribute__") (some (some (.builtin "BaseException.__getattribute__"))) &&
        (He.eqO (PySem.W.findIn K (.ref (ga K x)) "__getattr__") (some none) && (He.eqO (PySem.W.findIn K (.ref (ga K x)) "__class__") (some (some (.builtin "object.__class__"))) && fs.all fun f => He.eqO (PySem.W.findIn K (.ref (ga K x)) f) (some none)))))))))
  | _ => false
theorem ba {a b : Bool} (h : (a && b) = true) : a = true ∧ b = true := Bool.and_eq_true_iff.mp h
structure ClsF (K : PySem.W.Frag) (x : Str) (C : Addr) (tl : List Value) (fs : List Str) : Prop where
  ex : ∃ (N : Addr) (q : Str) (bs : List Value) (sn : List Str) (sub : List Value) (ab : Bool) (col : Option Bool) (dd : Option Addr) (k0 k1 k2 k3 k5 : Option Value), K.lookup C = some (PySem.excClassObj x q C N bs tl true sn sub ab col dd k0 k1 k2 k3 k5 "ValueError.__new__")
  sa : PySem.W.findIn K (.ref C) "__setattr__" = some (some (.builtin "object.__setattr__"))
  ga : PySem.W.findIn K (.ref C) "__getattribute__" = some (some (.builtin "BaseException.__getattribute__"))
  gg : PySem.W.findIn K (.ref C) "__getattr__" = some none
  ca : PySem.W.findIn K (.ref C) "__class__" = some (some (.builtin "object.__class__"))
  nf : ∀ f ∈ fs, PySem.W.findIn K (.ref C) f = some none
theorem six {l : List (Option Value)} (h : (match l with
      | [_, _, _, _, some (.builtin n), _] => decide (n = "ValueError.__new__")
      | _ => false) = true) : ∃ k0 k1 k2 k3 k5, l = [k0, k1, k2, k3, some (.builtin "ValueError.__new__"), k5] := by
  split at h
  · exact ⟨_, _, _, _, _, by rw [of_decide_eq_true h]⟩
  · cases h
theorem clsB_ok {K : PySem.W.Frag} {x : Str} {tl : List Value} {fs : List Str} (h : clsB K x tl fs = true) : ClsF K x (ga K x) tl fs := by
  unfold clsB at h
  split at h
  · rename_i dd cd sl lk
    obtain ⟨h1, h⟩ := ba h
    obtain ⟨h2, h⟩ := ba h
    obtain ⟨h3, h⟩ := ba h
    obtain ⟨h4, h⟩ := ba h
    obtain ⟨h5, h⟩ := ba h
    obtain ⟨h6, h⟩ := ba h
    obtain ⟨h7, h⟩ := ba h
    obtain ⟨h8, h⟩ := ba h
    obtain ⟨h9, h⟩ := ba h
    refine ⟨?_, He.eqO_ok h6, He.eqO_ok h7, He.eqO_ok h8, He.eqO_ok h9, fun f hf => He.eqO_ok (List.all_eq_true.mp h f hf)⟩
    have h1 := of_decide_eq_true h1
    have h2 := of_decide_eq_true h2
    obtain ⟨n, b, m, ns, q, hd, sn, sub, ab, col, hdel⟩ := cd
    obtain ⟨l⟩ := sl
    dsimp only at h1 h2 h3 h4 h5
    subst h1 h2
    cases hd with
    | false => cases h3
    | true =>
      cases hdel with
      | true => cases h4
      | false =>
        obtain ⟨k0, k1, k2, k3, k5, e⟩ := six (l := l) h5
        subst e
        exact ⟨ns, q, b, sn, sub, ab, col, dd, k0, k1, k2, k3, k5, lk⟩
  · cases h
def funOf {K : PySem.W.Frag} {x q : Str} {st : Stmt} {f : Addr} {fd : FuncData} (F : FunD K x q (defArgs st) (defBody st) (defScope st) [] [] f fd) : Fun K x q st f fd := by
  refine ⟨?_, F.kp⟩
  obtain ⟨oc, od, dV, kV, doc, pm, an, cdv, ct, osl, e, lk, hcd, dv, _⟩ := F.ex
  rcases dv with ⟨_, rfl⟩ | ⟨z, _⟩
  · exact ⟨oc, od, kV, doc, pm, an, cdv, ct, osl, e, lk, hcd⟩
  · exact absurd rfl z
abbrev veT0 : List Value := [.type "ValueError", .type "Exception", .type "BaseException", .type "object"]

def exP0 (K : PySem.W.Frag) : Bool := clsB K "LetterError" veT0 [] && (He.eqO (PySem.W.specialIn K (.builtin "object.__class__") "__get__") (some (some (.builtin "getset_descriptor.__get__"))) && (decide (PySem.W.takesIn K (.builtin "object.__class__") = some true) && PySem.W.excIn K (ga K "LetterError") veT0 "ValueError.__new__"))
def exP1 (K : PySem.W.Frag) : Bool := clsB K "BadBox" (.ref (ga K "LetterError") :: veT0) ["index", "what"] && (clsB K "BadChart" (.ref (ga K "LetterError") :: veT0) ["index", "what"] && (clsB K "BadText" (.ref (ga K "LetterError") :: veT0) ["row", "what"] && (clsB K "BadCounts" (.ref (ga K "LetterError") :: veT0) ["index", "what"] && (clsB K "BadSurrounding" (.ref (ga K "LetterError") :: veT0) ["name", "what"] && (clsB K "BadTable" (.ref (ga K "LetterError") :: veT0) ["index", "what"] && (clsB K "BadShares" (.ref (ga K "LetterError") :: veT0) ["index", "what"] && (clsB K "BadWeights" (.ref (ga K "LetterError") :: veT0) ["index", "what"] && (clsB K "BadChanges" (.ref (ga K "LetterError") :: veT0) ["index", "what"] && (clsB K "BadHouse" (.ref (ga K "LetterError") :: veT0) ["index", "what"] && (true))))))))))
def exP2 (K : PySem.W.Frag) : Bool := clsB K "BadFinder" (.ref (ga K "LetterError") :: veT0) ["index", "what"] && (clsB K "BadGaps" (.ref (ga K "LetterError") :: veT0) ["index", "what"] && (clsB K "BadLook" (.ref (ga K "LetterError") :: veT0) ["index", "what"] && (clsB K "BadEdits" (.ref (ga K "LetterError") :: veT0) ["index", "what"] && (clsB K "BadRatio" (.ref (ga K "LetterError") :: veT0) ["what"] && (clsB K "NoFilling" (.ref (ga K "LetterError") :: veT0) ["thing"] && (clsB K "NoSuchBox" (.ref (ga K "LetterError") :: veT0) ["index"] && (clsB K "NoWire" (.ref (ga K "LetterError") :: veT0) ["name"] && (clsB K "BadIns" (.ref (ga K "LetterError") :: veT0) ["index"] && (clsB K "BadPost" (.ref (ga K "LetterError") :: veT0) ["index"] && (true))))))))))
def exP3 (K : PySem.W.Frag) : Bool := clsB K "ChanceBox" (.ref (ga K "LetterError") :: veT0) ["index"] && (clsB K "BadNaming" (.ref (ga K "LetterError") :: veT0) ["index"] && (clsB K "BadOrder" (.ref (ga K "LetterError") :: veT0) ["order"] && (clsB K "BadDays" (.ref (ga K "LetterError") :: veT0) ["days"] && (clsB K "TooMany" (.ref (ga K "LetterError") :: veT0) ["most"] && (clsB K "NoStory" (.ref (ga K "LetterError") :: veT0) ["thing"] && (clsB K "HasStory" (.ref (ga K "LetterError") :: veT0) ["filling"] && (clsB K "NoLetter" (.ref (ga K "LetterError") :: veT0) ["name"] && (clsB K "OtherWires" (.ref (ga K "LetterError") :: veT0) ["what"] && (clsB K "NoBox" (.ref (ga K "LetterError") :: veT0) ["what"] && (true))))))))))
def exP4 (K : PySem.W.Frag) : Bool := clsB K "BadLot" (.ref (ga K "LetterError") :: veT0) ["index"] && (clsB K "NoRing" (.ref (ga K "LetterError") :: veT0) ["lot"] && (clsB K "BadTurns" (.ref (ga K "LetterError") :: veT0) ["turns"] && (clsB K "NotStaying" (.ref (ga K "LetterError") :: veT0) ["post"] && (clsB K "BadOuts" (.ref (ga K "LetterError") :: veT0) ["outs"] && (clsB K "BadShare" (.ref (ga K "LetterError") :: veT0) ["share"] && (clsB K "BadSlip" (.ref (ga K "LetterError") :: veT0) ["slip"] && (clsB K "BadNear" (.ref (ga K "LetterError") :: veT0) ["within"] && (clsB K "BadTold" (.ref (ga K "LetterError") :: veT0) ["index"] && (clsB K "BadNames" (.ref (ga K "LetterError") :: veT0) ["index"] && (true))))))))))
def exP5 (K : PySem.W.Frag) : Bool := clsB K "NotKnown" (.ref (ga K "LetterError") :: veT0) ["name"] && (clsB K "NotMade" (.ref (ga K "LetterError") :: veT0) ["name"] && (clsB K "NotLeft" (.ref (ga K "LetterError") :: veT0) ["worth"] && (clsB K "NoKey" (.ref (ga K "LetterError") :: veT0) ["filling"] && (clsB K "BadCustom" (.ref (ga K "LetterError") :: veT0) ["custom"] && (clsB K "BadWish" (.ref (ga K "LetterError") :: veT0) ["what"] && (clsB K "NotOneBox" (.ref (ga K "LetterError") :: veT0) ["what"] && (clsB K "BadHand" (.ref (ga K "LetterError") :: veT0) ["hand"] && (clsB K "BadLetter" (.ref (ga K "LetterError") :: veT0) ["letter"] && (clsB K "BadExchange" (.ref (ga K "LetterError") :: veT0) ["what"] && (true))))))))))
def exP6 (K : PySem.W.Frag) : Bool := clsB K "BadDay" (.ref (ga K "LetterError") :: veT0) ["day"] && (clsB K "NoDayStory" (.ref (ga K "LetterError") :: veT0) ["number"] && (clsB K "BadRound" (.ref (ga K "LetterError") :: veT0) ["what"] && (clsB K "OtherLetters" (.ref (ga K "LetterError") :: veT0) ["size"] && (clsB K "NotIn" (.ref (ga K "LetterError") :: veT0) ["name"] && (clsB K "BadManner" (.ref (ga K "LetterError") :: veT0) ["manner"] && (clsB K "BadPool" (.ref (ga K "LetterError") :: veT0) ["index"] && (clsB K "BadGoal" (.ref (ga K "LetterError") :: veT0) ["what"] && (clsB K "NothingLeft" (.ref (ga K "LetterError") :: veT0) ["many"] && (clsB K "StillTrial" (.ref (ga K "LetterError") :: veT0) ["deeds"] && (true))))))))))
def exB (K : PySem.W.Frag) : Bool := exP0 K && (exP1 K && (exP2 K && (exP3 K && (exP4 K && (exP5 K && (exP6 K))))))
def fn0 : List He.DefD := [
  ⟨("_law_hand", none), "_law_hand", "_law_hand", defArgs s_law_hand, defBody s_law_hand, defScope s_law_hand, [], []⟩,
  ⟨("_law_mixed", none), "_law_mixed", "_law_mixed", defArgs s_law_mixed, defBody s_law_mixed, defScope s_law_mixed, [], []⟩,
  ⟨("_law_take", none), "_law_take", "_law_take", defArgs s_law_take, defBody s_law_take, defScope s_law_take, [], []⟩,
  ⟨("_law_pairs", none), "_law_pairs", "_law_pairs", defArgs s_law_pairs, defBody s_law_pairs, defScope s_law_pairs, [], []⟩,
  ⟨("_law_first", none), "_law_first", "_law_first", defArgs s_law_first, defBody s_law_first, defScope s_law_first, [], []⟩,
  ⟨("_law_second", none), "_law_second", "_law_second", defArgs s_law_second, defBody s_law_second, defScope s_law_second, [], []⟩,
  ⟨("_law_kinds", none), "_law_kinds", "_law_kinds", defArgs s_law_kinds, defBody s_law_kinds, defScope s_law_kinds, [], []⟩,
  ⟨("law", none), "law", "law", defArgs slaw, defBody slaw, defScope slaw, [], []⟩]
def fn1 : List He.DefD := [
  ⟨("BadBox", some "__init__"), "__init__", "BadBox.__init__", defArgs sI_BadBox, defBody sI_BadBox, defScope sI_BadBox, [], []⟩,
  ⟨("BadChart", some "__init__"), "__init__", "BadChart.__init__", defArgs sI_BadChart, defBody sI_BadChart, defScope sI_BadChart, [], []⟩,
  ⟨("BadText", some "__init__"), "__init__", "BadText.__init__", defArgs sI_BadText, defBody sI_BadText, defScope sI_BadText, [], []⟩,
  ⟨("BadCounts", some "__init__"), "__init__", "BadCounts.__init__", defArgs sI_BadCounts, defBody sI_BadCounts, defScope sI_BadCounts, [], []⟩,
  ⟨("BadSurrounding", some "__init__"), "__init__", "BadSurrounding.__init__", defArgs sI_BadSurrounding, defBody sI_BadSurrounding, defScope sI_BadSurrounding, [], []⟩,
  ⟨("BadTable", some "__init__"), "__init__", "BadTable.__init__", defArgs sI_BadTable, defBody sI_BadTable, defScope sI_BadTable, [], []⟩,
  ⟨("BadShares", some "__init__"), "__init__", "BadShares.__init__", defArgs sI_BadShares, defBody sI_BadShares, defScope sI_BadShares, [], []⟩,
  ⟨("BadWeights", some "__init__"), "__init__", "BadWeights.__init__", defArgs sI_BadWeights, defBody sI_BadWeights, defScope sI_BadWeights, [], []⟩,
  ⟨("BadChanges", some "__init__"), "__init__", "BadChanges.__init__", defArgs sI_BadChanges, defBody sI_BadChanges, defScope sI_BadChanges, [], []⟩,
  ⟨("BadHouse", some "__init__"), "__init__", "BadHouse.__init__", defArgs sI_BadHouse, defBody sI_BadHouse, defScope sI_BadHouse, [], []⟩,
  ⟨("BadFinder", some "__init__"), "__init__", "BadFinder.__init__", defArgs sI_BadFinder, defBody sI_BadFinder, defScope sI_BadFinder, [], []⟩,
  ⟨("BadGaps", some "__init__"), "__init__", "BadGaps.__init__", defArgs sI_BadGaps, defBody sI_BadGaps, defScope sI_BadGaps, [], []⟩,
  ⟨("BadLook", some "__init__"), "__init__", "BadLook.__init__", defArgs sI_BadLook, defBody sI_BadLook, defScope sI_BadLook, [], []⟩,
  ⟨("BadEdits", some "__init__"), "__init__", "BadEdits.__init__", defArgs sI_BadEdits, defBody sI_BadEdits, defScope sI_BadEdits, [], []⟩,
  ⟨("BadRatio", some "__init__"), "__init__", "BadRatio.__init__", defArgs sI_BadRatio, defBody sI_BadRatio, defScope sI_BadRatio, [], []⟩]
def fn2 : List He.DefD := [
  ⟨("NoFilling", some "__init__"), "__init__", "NoFilling.__init__", defArgs sI_NoFilling, defBody sI_NoFilling, defScope sI_NoFilling, [], []⟩,
  ⟨("NoSuchBox", some "__init__"), "__init__", "NoSuchBox.__init__", defArgs sI_NoSuchBox, defBody sI_NoSuchBox, defScope sI_NoSuchBox, [], []⟩,
  ⟨("NoWire", some "__init__"), "__init__", "NoWire.__init__", defArgs sI_NoWire, defBody sI_NoWire, defScope sI_NoWire, [], []⟩,
  ⟨("BadIns", some "__init__"), "__init__", "BadIns.__init__", defArgs sI_BadIns, defBody sI_BadIns, defScope sI_BadIns, [], []⟩,
  ⟨("BadPost", some "__init__"), "__init__", "BadPost.__init__", defArgs sI_BadPost, defBody sI_BadPost, defScope sI_BadPost, [], []⟩,
  ⟨("ChanceBox", some "__init__"), "__init__", "ChanceBox.__init__", defArgs sI_ChanceBox, defBody sI_ChanceBox, defScope sI_ChanceBox, [], []⟩,
  ⟨("BadNaming", some "__init__"), "__init__", "BadNaming.__init__", defArgs sI_BadNaming, defBody sI_BadNaming, defScope sI_BadNaming, [], []⟩,
  ⟨("BadOrder", some "__init__"), "__init__", "BadOrder.__init__", defArgs sI_BadOrder, defBody sI_BadOrder, defScope sI_BadOrder, [], []⟩,
  ⟨("BadDays", some "__init__"), "__init__", "BadDays.__init__", defArgs sI_BadDays, defBody sI_BadDays, defScope sI_BadDays, [], []⟩,
  ⟨("TooMany", some "__init__"), "__init__", "TooMany.__init__", defArgs sI_TooMany, defBody sI_TooMany, defScope sI_TooMany, [], []⟩,
  ⟨("NoStory", some "__init__"), "__init__", "NoStory.__init__", defArgs sI_NoStory, defBody sI_NoStory, defScope sI_NoStory, [], []⟩,
  ⟨("HasStory", some "__init__"), "__init__", "HasStory.__init__", defArgs sI_HasStory, defBody sI_HasStory, defScope sI_HasStory, [], []⟩,
  ⟨("NoLetter", some "__init__"), "__init__", "NoLetter.__init__", defArgs sI_NoLetter, defBody sI_NoLetter, defScope sI_NoLetter, [], []⟩,
  ⟨("OtherWires", some "__init__"), "__init__", "OtherWires.__init__", defArgs sI_OtherWires, defBody sI_OtherWires, defScope sI_OtherWires, [], []⟩,
  ⟨("NoBox", some "__init__"), "__init__", "NoBox.__init__", defArgs sI_NoBox, defBody sI_NoBox, defScope sI_NoBox, [], []⟩]
def fn3 : List He.DefD := [
  ⟨("BadLot", some "__init__"), "__init__", "BadLot.__init__", defArgs sI_BadLot, defBody sI_BadLot, defScope sI_BadLot, [], []⟩,
  ⟨("NoRing", some "__init__"), "__init__", "NoRing.__init__", defArgs sI_NoRing, defBody sI_NoRing, defScope sI_NoRing, [], []⟩,
  ⟨("BadTurns", some "__init__"), "__init__", "BadTurns.__init__", defArgs sI_BadTurns, defBody sI_BadTurns, defScope sI_BadTurns, [], []⟩,
  ⟨("NotStaying", some "__init__"), "__init__", "NotStaying.__init__", defArgs sI_NotStaying, defBody sI_NotStaying, defScope sI_NotStaying, [], []⟩,
  ⟨("BadOuts", some "__init__"), "__init__", "BadOuts.__init__", defArgs sI_BadOuts, defBody sI_BadOuts, defScope sI_BadOuts, [], []⟩,
  ⟨("BadShare", some "__init__"), "__init__", "BadShare.__init__", defArgs sI_BadShare, defBody sI_BadShare, defScope sI_BadShare, [], []⟩,
  ⟨("BadSlip", some "__init__"), "__init__", "BadSlip.__init__", defArgs sI_BadSlip, defBody sI_BadSlip, defScope sI_BadSlip, [], []⟩,
  ⟨("BadNear", some "__init__"), "__init__", "BadNear.__init__", defArgs sI_BadNear, defBody sI_BadNear, defScope sI_BadNear, [], []⟩,
  ⟨("BadTold", some "__init__"), "__init__", "BadTold.__init__", defArgs sI_BadTold, defBody sI_BadTold, defScope sI_BadTold, [], []⟩,
  ⟨("BadNames", some "__init__"), "__init__", "BadNames.__init__", defArgs sI_BadNames, defBody sI_BadNames, defScope sI_BadNames, [], []⟩,
  ⟨("NotKnown", some "__init__"), "__init__", "NotKnown.__init__", defArgs sI_NotKnown, defBody sI_NotKnown, defScope sI_NotKnown, [], []⟩,
  ⟨("NotMade", some "__init__"), "__init__", "NotMade.__init__", defArgs sI_NotMade, defBody sI_NotMade, defScope sI_NotMade, [], []⟩,
  ⟨("NotLeft", some "__init__"), "__init__", "NotLeft.__init__", defArgs sI_NotLeft, defBody sI_NotLeft, defScope sI_NotLeft, [], []⟩,
  ⟨("NoKey", some "__init__"), "__init__", "NoKey.__init__", defArgs sI_NoKey, defBody sI_NoKey, defScope sI_NoKey, [], []⟩,
  ⟨("BadCustom", some "__init__"), "__init__", "BadCustom.__init__", defArgs sI_BadCustom, defBody sI_BadCustom, defScope sI_BadCustom, [], []⟩]
def fn4 : List He.DefD := [
  ⟨("BadWish", some "__init__"), "__init__", "BadWish.__init__", defArgs sI_BadWish, defBody sI_BadWish, defScope sI_BadWish, [], []⟩,
  ⟨("NotOneBox", some "__init__"), "__init__", "NotOneBox.__init__", defArgs sI_NotOneBox, defBody sI_NotOneBox, defScope sI_NotOneBox, [], []⟩,
  ⟨("BadHand", some "__init__"), "__init__", "BadHand.__init__", defArgs sI_BadHand, defBody sI_BadHand, defScope sI_BadHand, [], []⟩,
  ⟨("BadLetter", some "__init__"), "__init__", "BadLetter.__init__", defArgs sI_BadLetter, defBody sI_BadLetter, defScope sI_BadLetter, [], []⟩,
  ⟨("BadExchange", some "__init__"), "__init__", "BadExchange.__init__", defArgs sI_BadExchange, defBody sI_BadExchange, defScope sI_BadExchange, [], []⟩,
  ⟨("BadDay", some "__init__"), "__init__", "BadDay.__init__", defArgs sI_BadDay, defBody sI_BadDay, defScope sI_BadDay, [], []⟩,
  ⟨("NoDayStory", some "__init__"), "__init__", "NoDayStory.__init__", defArgs sI_NoDayStory, defBody sI_NoDayStory, defScope sI_NoDayStory, [], []⟩,
  ⟨("BadRound", some "__init__"), "__init__", "BadRound.__init__", defArgs sI_BadRound, defBody sI_BadRound, defScope sI_BadRound, [], []⟩,
  ⟨("OtherLetters", some "__init__"), "__init__", "OtherLetters.__init__", defArgs sI_OtherLetters, defBody sI_OtherLetters, defScope sI_OtherLetters, [], []⟩,
  ⟨("NotIn", some "__init__"), "__init__", "NotIn.__init__", defArgs sI_NotIn, defBody sI_NotIn, defScope sI_NotIn, [], []⟩,
  ⟨("BadManner", some "__init__"), "__init__", "BadManner.__init__", defArgs sI_BadManner, defBody sI_BadManner, defScope sI_BadManner, [], []⟩,
  ⟨("BadPool", some "__init__"), "__init__", "BadPool.__init__", defArgs sI_BadPool, defBody sI_BadPool, defScope sI_BadPool, [], []⟩,
  ⟨("BadGoal", some "__init__"), "__init__", "BadGoal.__init__", defArgs sI_BadGoal, defBody sI_BadGoal, defScope sI_BadGoal, [], []⟩,
  ⟨("NothingLeft", some "__init__"), "__init__", "NothingLeft.__init__", defArgs sI_NothingLeft, defBody sI_NothingLeft, defScope sI_NothingLeft, [], []⟩,
  ⟨("StillTrial", some "__init__"), "__init__", "StillTrial.__init__", defArgs sI_StillTrial, defBody sI_StillTrial, defScope sI_StillTrial, [], []⟩]
def fn : List He.DefD := fn0 ++ (fn1 ++ (fn2 ++ (fn3 ++ (fn4))))
def fa0 : List He.Fa := [.glo "LetterError", .glo "_law_hand", .glo "_law_mixed", .glo "_law_take", .glo "_law_pairs", .glo "_law_first", .glo "_law_second", .glo "_law_kinds", .glo "law", .free "len", .free "abs", .free "int", .free "range", .free "isinstance", .free "ValueError"]
def fa1 : List He.Fa := [.glo "BadBox", .meth "BadBox" "__init__", .glo "BadChart", .meth "BadChart" "__init__", .glo "BadText", .meth "BadText" "__init__", .glo "BadCounts", .meth "BadCounts" "__init__", .glo "BadSurrounding", .meth "BadSurrounding" "__init__", .glo "BadTable", .meth "BadTable" "__init__", .glo "BadShares", .meth "BadShares" "__init__", .glo "BadWeights", .meth "BadWeights" "__init__", .glo "BadChanges", .meth "BadChanges" "__init__", .glo "BadHouse", .meth "BadHouse" "__init__", .glo "BadFinder", .meth "BadFinder" "__init__", .glo "BadGaps", .meth "BadGaps" "__init__", .glo "BadLook", .meth "BadLook" "__init__", .glo "BadEdits", .meth "BadEdits" "__init__", .glo "BadRatio", .meth "BadRatio" "__init__"]
def fa2 : List He.Fa := [.glo "NoFilling", .meth "NoFilling" "__init__", .glo "NoSuchBox", .meth "NoSuchBox" "__init__", .glo "NoWire", .meth "NoWire" "__init__", .glo "BadIns", .meth "BadIns" "__init__", .glo "BadPost", .meth "BadPost" "__init__", .glo "ChanceBox", .meth "ChanceBox" "__init__", .glo "BadNaming", .meth "BadNaming" "__init__", .glo "BadOrder", .meth "BadOrder" "__init__", .glo "BadDays", .meth "BadDays" "__init__", .glo "TooMany", .meth "TooMany" "__init__", .glo "NoStory", .meth "NoStory" "__init__", .glo "HasStory", .meth "HasStory" "__init__", .glo "NoLetter", .meth "NoLetter" "__init__", .glo "OtherWires", .meth "OtherWires" "__init__", .glo "NoBox", .meth "NoBox" "__init__"]
def fa3 : List He.Fa := [.glo "BadLot", .meth "BadLot" "__init__", .glo "NoRing", .meth "NoRing" "__init__", .glo "BadTurns", .meth "BadTurns" "__init__", .glo "NotStaying", .meth "NotStaying" "__init__", .glo "BadOuts", .meth "BadOuts" "__init__", .glo "BadShare", .meth "BadShare" "__init__", .glo "BadSlip", .meth "BadSlip" "__init__", .glo "BadNear", .meth "BadNear" "__init__", .glo "BadTold", .meth "BadTold" "__init__", .glo "BadNames", .meth "BadNames" "__init__", .glo "NotKnown", .meth "NotKnown" "__init__", .glo "NotMade", .meth "NotMade" "__init__", .glo "NotLeft", .meth "NotLeft" "__init__", .glo "NoKey", .meth "NoKey" "__init__", .glo "BadCustom", .meth "BadCustom" "__init__"]
def fa4 : List He.Fa := [.glo "BadWish", .meth "BadWish" "__init__", .glo "NotOneBox", .meth "NotOneBox" "__init__", .glo "BadHand", .meth "BadHand" "__init__", .glo "BadLetter", .meth "BadLetter" "__init__", .glo "BadExchange", .meth "BadExchange" "__init__", .glo "BadDay", .meth "BadDay" "__init__", .glo "NoDayStory", .meth "NoDayStory" "__init__", .glo "BadRound", .meth "BadRound" "__init__", .glo "OtherLetters", .meth "OtherLetters" "__init__", .glo "NotIn", .meth "NotIn" "__init__", .glo "BadManner", .meth "BadManner" "__init__", .glo "BadPool", .meth "BadPool" "__init__", .glo "BadGoal", .meth "BadGoal" "__init__", .glo "NothingLeft", .meth "NothingLeft" "__init__", .glo "StillTrial", .meth "StillTrial" "__init__"]
def fa : List He.Fa := fa0 ++ (fa1 ++ (fa2 ++ (fa3 ++ (fa4))))
def lo0 : List PySem.Str := ("LetterError" : PySem.Str) :: ("BadRatio" : PySem.Str) :: ("NoFilling" : PySem.Str) :: ("BadBox" : PySem.Str) :: ("BadChart" : PySem.Str) :: ("NoSuchBox" : PySem.Str) :: ("NoWire" : PySem.Str) :: ("BadIns" : PySem.Str) :: ("BadPost" : PySem.Str) :: ("ChanceBox" : PySem.Str) :: []
def lo1 : List PySem.Str := ("BadNaming" : PySem.Str) :: ("BadOrder" : PySem.Str) :: ("BadDays" : PySem.Str) :: ("BadText" : PySem.Str) :: ("TooMany" : PySem.Str) :: ("NoStory" : PySem.Str) :: ("HasStory" : PySem.Str) :: ("BadCounts" : PySem.Str) :: ("NoLetter" : PySem.Str) :: ("BadSurrounding" : PySem.Str) :: []
def lo2 : List PySem.Str := ("OtherWires" : PySem.Str) :: ("NoBox" : PySem.Str) :: ("BadTable" : PySem.Str) :: ("BadLot" : PySem.Str) :: ("NoRing" : PySem.Str) :: ("BadTurns" : PySem.Str) :: ("BadShares" : PySem.Str) :: ("BadWeights" : PySem.Str) :: ("NotStaying" : PySem.Str) :: ("BadOuts" : PySem.Str) :: []
def lo3 : List PySem.Str := ("BadShare" : PySem.Str) :: ("BadSlip" : PySem.Str) :: ("BadNear" : PySem.Str) :: ("BadTold" : PySem.Str) :: ("BadNames" : PySem.Str) :: ("NotKnown" : PySem.Str) :: ("NotMade" : PySem.Str) :: ("NotLeft" : PySem.Str) :: ("NoKey" : PySem.Str) :: ("BadCustom" : PySem.Str) :: []
def lo4 : List PySem.Str := ("BadWish" : PySem.Str) :: ("NotOneBox" : PySem.Str) :: ("BadChanges" : PySem.Str) :: ("BadHouse" : PySem.Str) :: ("BadHand" : PySem.Str) :: ("BadLetter" : PySem.Str) :: ("BadExchange" : PySem.Str) :: ("BadDay" : PySem.Str) :: ("NoDayStory" : PySem.Str) :: ("BadRound" : PySem.Str) :: []
def lo5 : List PySem.Str := ("OtherLetters" : PySem.Str) :: ("BadFinder" : PySem.Str) :: ("BadGaps" : PySem.Str) :: ("NotIn" : PySem.Str) :: ("BadManner" : PySem.Str) :: ("BadLook" : PySem.Str) :: ("BadPool" : PySem.Str) :: ("BadEdits" : PySem.Str) :: ("BadGoal" : PySem.Str) :: ("NothingLeft" : PySem.Str) :: []
def lo6 : List PySem.Str := ("StillTrial" : PySem.Str) :: ("_law_hand" : PySem.Str) :: ("_law_mixed" : PySem.Str) :: ("_law_take" : PySem.Str) :: ("_law_pairs" : PySem.Str) :: ("_law_first" : PySem.Str) :: ("_law_second" : PySem.Str) :: ("_law_kinds" : PySem.Str) :: []
abbrev loose : List PySem.Str := ("LetterError" : PySem.Str) :: ("BadRatio" : PySem.Str) :: ("NoFilling" : PySem.Str) :: ("BadBox" : PySem.Str) :: ("BadChart" : PySem.Str) :: ("NoSuchBox" : PySem.Str) :: ("NoWire" : PySem.Str) :: ("BadIns" : PySem.Str) :: ("BadPost" : PySem.Str) :: ("ChanceBox" : PySem.Str) :: ("BadNaming" : PySem.Str) :: ("BadOrder" : PySem.Str) :: ("BadDays" : PySem.Str) :: ("BadText" : PySem.Str) :: ("TooMany" : PySem.Str) :: ("NoStory" : PySem.Str) :: ("HasStory" : PySem.Str) :: ("BadCounts" : PySem.Str) :: ("NoLetter" : PySem.Str) :: ("BadSurrounding" : PySem.Str) :: ("OtherWires" : PySem.Str) :: ("NoBox" : PySem.Str) :: ("BadTable" : PySem.Str) :: ("BadLot" : PySem.Str) :: ("NoRing" : PySem.Str) :: ("BadTurns" : PySem.Str) :: ("BadShares" : PySem.Str) :: ("BadWeights" : PySem.Str) :: ("NotStaying" : PySem.Str) :: ("BadOuts" : PySem.Str) :: ("BadShare" : PySem.Str) :: ("BadSlip" : PySem.Str) :: ("BadNear" : PySem.Str) :: ("BadTold" : PySem.Str) :: ("BadNames" : PySem.Str) :: ("NotKnown" : PySem.Str) :: ("NotMade" : PySem.Str) :: ("NotLeft" : PySem.Str) :: ("NoKey" : PySem.Str) :: ("BadCustom" : PySem.Str) :: ("BadWish" : PySem.Str) :: ("NotOneBox" : PySem.Str) :: ("BadChanges" : PySem.Str) :: ("BadHouse" : PySem.Str) :: ("BadHand" : PySem.Str) :: ("BadLetter" : PySem.Str) :: ("BadExchange" : PySem.Str) :: ("BadDay" : PySem.Str) :: ("NoDayStory" : PySem.Str) :: ("BadRound" : PySem.Str) :: ("OtherLetters" : PySem.Str) :: ("BadFinder" : PySem.Str) :: ("BadGaps" : PySem.Str) :: ("NotIn" : PySem.Str) :: ("BadManner" : PySem.Str) :: ("BadLook" : PySem.Str) :: ("BadPool" : PySem.Str) :: ("BadEdits" : PySem.Str) :: ("BadGoal" : PySem.Str) :: ("NothingLeft" : PySem.Str) :: ("StillTrial" : PySem.Str) :: ("_law_hand" : PySem.Str) :: ("_law_mixed" : PySem.Str) :: ("_law_take" : PySem.Str) :: ("_law_pairs" : PySem.Str) :: ("_law_first" : PySem.Str) :: ("_law_second" : PySem.Str) :: ("_law_kinds" : PySem.Str) :: []
abbrev R : PySem.W.OpenRow := PySem.W.OpenLaw.row PySem.Challenge.rw_alreadytold_k00_errors_side_by_side
abbrev hk : PySem.W.Hook := He.hookX 4 fa fn [] [] exB
def ob (s : PySem.W.SharedT) : He.AlX := He.obsX 4 fa fn [] [] exB (HandSHeadRun.getT s)
theorem ob_eq (s : PySem.W.SharedT) : ob s = hk.obs s.abs := He.obsX_eq (HandSHeadRun.getT_eq s)
def dummy : Nat := 0
end K00
set_option Elab.async false
set_option linter.all false
set_option maxRecDepth 100000
set_option maxHeartbeats 0
namespace K00
open PySem PySem.W PySem.Calls PyProof.Rows
theorem join3 {α β γ δ : Type} {x : Option α} {f : α → β} {g : α → γ} {o : α → δ} {b : β} {c : γ} {d : δ} (h1 : x.map (fun s => (f s, g s)) = some (b, c)) (h2 : x.map o = some d) : x.map (fun s => (f s, g s, o s)) = some (b, c, d) := by
  cases x with
  | none => cases h1
  | some s =>
    injection h1 with h1
    injection h2 with h2
    injection h1 with h3 h4
    show some (f s, g s, o s) = _
    rw [h3, h4, h2]
theorem join2 {α β γ : Type} {x : Option α} {o : α → β × γ} {d : β × γ} (h1 : x.map (fun s => (o s).1) = some d.1) (h2 : x.map (fun s => (o s).2) = some d.2) : x.map o = some d := by
  cases x with
  | none => cases h1
  | some s => exact congrArg some (Prod.ext (Option.some.inj h1) (Option.some.inj h2))
theorem andm {α : Type} {x : Option α} {f g : α → Bool} (h1 : x.map f = some true) (h2 : x.map g = some true) : x.map (fun s => f s && g s) = some true := by
  cases x with
  | none => cases h1
  | some s => show some (f s && g s) = _; rw [Option.some.inj h1, Option.some.inj h2]; rfl
theorem tru {α β γ : Type} {x : Option α} {f : α → β} {g : α → γ} {d : β} {c : γ} (h : x.map f = some d) (e : ∀ s, g s = c) : x.map g = some c := by
  cases x with
  | none => cases h
  | some s => show some (g s) = _; rw [e]
theorem runa (w : World) : ∀ os : OsState, (HandSHeadRun.endF (HandSHeadRun.stepQ (HandSHeadRun.denQ HandSHeadRun.tabQ) R.prog w) 15400 R.prog w os).map (fun s => (HandSHeadRun.looksF R.prog (boot_heap w.params) s.abs, HandSHeadRun.seenQ (view R.prog [70]) loose (importedModules R.prog.main.body) (fun s => xlAt (view R.prog [70]) [] s && recOk R.toRowW.records s) s.abs)) = some (true, openGood (view R.prog [70]) loose) := by
  intro os
  kernel_rfl
theorem u1 (w : World) : ∀ os : OsState, (HandSHeadRun.endF (HandSHeadRun.stepQ (HandSHeadRun.denQ HandSHeadRun.tabQ) R.prog w) 15400 R.prog w os).map (fun s => fa.all fun f => f.ok (He.frT (HandSHeadRun.getT s) (He.asD (HandSHeadRun.getT s) 4))) = some true := by
  intro os
  kernel_rfl
theorem u2a (w : World) : ∀ os : OsState, (HandSHeadRun.endF (HandSHeadRun.stepQ (HandSHeadRun.denQ HandSHeadRun.tabQ) R.prog w) 15400 R.prog w os).map (fun s => (fn0 ++ fn1).all fun d => d.ok (He.frT (HandSHeadRun.getT s) (He.asD (HandSHeadRun.getT s) 4))) = some true := by
  intro os
  kernel_rfl
theorem u2b (w : World) : ∀ os : OsState, (HandSHeadRun.endF (HandSHeadRun.stepQ (HandSHeadRun.denQ HandSHeadRun.tabQ) R.prog w) 15400 R.prog w os).map (fun s => (fn2 ++ fn3).all fun d => d.ok (He.frT (HandSHeadRun.getT s) (He.asD (HandSHeadRun.getT s) 4))) = some true := by
  intro os
  kernel_rfl
theorem u2c (w : World) : ∀ os : OsState, (HandSHeadRun.endF (HandSHeadRun.stepQ (HandSHeadRun.denQ HandSHeadRun.tabQ) R.prog w) 15400 R.prog w os).map (fun s => fn4.all fun d => d.ok (He.frT (HandSHeadRun.getT s) (He.asD (HandSHeadRun.getT s) 4))) = some true := by
  intro os
  kernel_rfl
theorem fn_all (p : He.DefD → Bool) : fn.all p = ((fn0 ++ fn1).all p && ((fn2 ++ fn3).all p && fn4.all p)) := by
  show (fn0 ++ (fn1 ++ (fn2 ++ (fn3 ++ fn4)))).all p = _
  simp only [List.all_append, Bool.and_assoc]
theorem u2 (w : World) : ∀ os : OsState, (HandSHeadRun.endF (HandSHeadRun.stepQ (HandSHeadRun.denQ HandSHeadRun.tabQ) R.prog w) 15400 R.prog w os).map (fun s => fn.all fun d => d.ok (He.frT (HandSHeadRun.getT s) (He.asD (HandSHeadRun.getT s) 4))) = some true := fun os => by
  have h := andm (u2a w os) (andm (u2b w os) (u2c w os))
  simp only [fn_all]
  exact h
theorem u3 (w : World) : ∀ os : OsState, (HandSHeadRun.endF (HandSHeadRun.stepQ (HandSHeadRun.denQ HandSHeadRun.tabQ) R.prog w) 15400 R.prog w os).map (fun s => fn.map fun d => He.fnW (He.frT (HandSHeadRun.getT s) (He.asD (HandSHeadRun.getT s) 4)) d.at_) = some (fn.map He.DefD.val) := by
  intro os
  kernel_rfl
theorem ux (w : World) : ∀ os : OsState, (HandSHeadRun.endF (HandSHeadRun.stepQ (HandSHeadRun.denQ HandSHeadRun.tabQ) R.prog w) 15400 R.prog w os).map (fun s => exB (He.frT (HandSHeadRun.getT s) (He.asD (HandSHeadRun.getT s) 4))) = some true := by
  intro os
  kernel_rfl
theorem runb1 (w : World) : ∀ os : OsState, (HandSHeadRun.endF (HandSHeadRun.stepQ (HandSHeadRun.denQ HandSHeadRun.tabQ) R.prog w) 15400 R.prog w os).map (fun s => (ob s).1) = some (hk.val w).1 := fun os =>
  join2 (o := fun s => (ob s).1) (d := (hk.val w).1) (join2 (o := fun s => (ob s).1.1) (d := (hk.val w).1.1) (andm (u1 w os) (u2 w os)) (u3 w os)) (tru (u1 w os) fun s => rfl)
theorem runb2 (w : World) : ∀ os : OsState, (HandSHeadRun.endF (HandSHeadRun.stepQ (HandSHeadRun.denQ HandSHeadRun.tabQ) R.prog w) 15400 R.prog w os).map (fun s => (ob s).2) = some (hk.val w).2 := fun os =>
  andm (ux w os) (tru (u1 w os) fun s => rfl)
theorem run (w : World) : HandSHeadRun.RunEq R (view R.prog [70]) hk ob 15400 loose w := fun os => join3 (runa w os) (join2 (runb1 w os) (runb2 w os))
end K00
set_option Elab.async false
set_option linter.all false
set_option maxRecDepth 100000
set_option maxHeartbeats 4000000
namespace X00
open PySem L2
/-! ### errors as values: made, asked for a field, asked for their class -/
/-- C(e, ..) kept as a value -/
def tMkV (C : Addr) (sp : Sp) (ta : TA) : TE := fun σ H Q => ta σ H fun vs H1 => vs.length ≤ 1000 ∧ ∀ a, H1 a = none →
  sp (.ref a :: vs) (upd H1 a (exo a C none)) (fun v H2 => v = .non ∧ Q (.ref a) H2) E0
/-- what a class must say so that its errors tell their fields and their class -/
structure ErrC (K : PySem.W.Frag) (C : Addr) : Prop where
  ox : OexC K C
  ga : PySem.W.findIn K (.ref C) "__getattribute__" = some (some (.builtin "BaseException.__getattribute__"))
  gg : PySem.W.findIn K (.ref C) "__getattr__" = some none
  hd : PySem.W.hasDictIn K C = true
  ca : PySem.W.findIn K (.ref C) "__class__" = some (some (.builtin "object.__class__"))
  cg : PySem.W.specialIn K (.builtin "object.__class__") "__get__" = some (some (.builtin "getset_descriptor.__get__"))
  ct : PySem.W.takesIn K (.builtin "object.__class__") = some true
  mo : PySem.W.mroIn K C (.type "object") = some true
  is : (PySem.W.clsIn K C).isSome = true
def tFldE (K : PySem.W.Frag) (f : Str) (te : TE) : TE := fun σ H Q => te σ H fun x H1 => ∃ (a C d : Addr) (fs : List (Str × V)) (v : V),
  x = .ref a ∧ H1 a = some (exo a C (some d)) ∧ ErrC K C ∧ PySem.W.findIn K (.ref C) f = some none ∧ H1 d = some (exd d fs) ∧ fs.lookup f = some v ∧ Q v H1
/-- an error of the class at C stands at a -/
def IsErr (H : Hp) (a C : Addr) : Prop := (∃ d fs, H a = some (exo a C (some d)) ∧ H d = some (exd d fs)) ∨ H a = some (ExO (.ref C) a)
def rIsO (K : PySem.W.Frag) : List V → Hp → VK → Prop := fun xs H Q => ∃ (a C : Addr) (c : V) (u : Value) (b : Bool),
  xs = [.ref a, c] ∧ IsErr H a C ∧ ErrC K C ∧ ClsV c u ∧ PySem.W.kitOne K (.ref C) u = some b ∧ Q (.bl b) H
section
variable {X : Cx} {pins : List (Addr × Obj)} {σ : St} {H : Hp} {s : Shared}
/-- an error that stands in H, as the machine holds it -/
theorem inst_of (I : Inv X pins σ H s) {a C : Addr} {od : Option Addr} (h : H a = some (exo a C od)) (hd : ∀ d, od = some d → ∃ fs, H d = some (exd d fs)) :
    ∃ (ob : Obj) (oo : Option Obj), PySem.W.InstAt s.heap a ob C oo ∧ (∀ d fs, od = some d → H d = some (exd d fs) → ∃ (o : Obj) (mA : Str → Option Value), oo = some o ∧ (∀ f, PySem.W.lookIn f o = some (mA f)) ∧ ∀ f, RelO (fs.lookup f) (mA f)) := by
  obtain ⟨t1, e⟩ := exo_at I.hok h
  cases od with
  | none => exact ⟨_, none, ⟨e, rfl, rfl, trivial⟩, fun d fs q => by cases q⟩
  | some d =>
    obtain ⟨fs, hf⟩ := hd d rfl
    obtain ⟨mA, ns, rel⟩ := exd_at I.hok hf
    obtain ⟨o, ho, hl⟩ := lookIn_ns ns
    refine ⟨_, some o, ⟨e, rfl, rfl, ho⟩, fun d' fs' q q2 => ?_⟩
    cases q
    obtain ⟨mB, ns2, rel2⟩ := exd_at I.hok q2
    obtain ⟨o2, ho2, hl2⟩ := lookIn_ns ns2
    rw [ho] at ho2
    cases ho2
    exact ⟨o, mB, rfl, hl2, rel2⟩
end
section
variable {X : Cx} {e : Expr} {es : List Expr} {te : TE} {ta : TA} {f : Str} {p pos : Pos}
theorem pe_fldE (he : PE X e te) (hb : attributeBase e f X.env (eval e X.env) = eval e X.env := by rfl) : PE X (.Attribute e f pos) (tFldE X.K f te) := by
  refine ⟨fun pins s σ H Q I h => attr_of hb (thn (he.run pins s σ H _ I h) fun u s1 hh => ?_)⟩
  obtain ⟨x, H1, I1, rx, a, C, d, fs, v, ex, ea, T, nf, ed, el, q⟩ := hh
  subst ex
  obtain rfl : u = Value.ref a := rx
  obtain ⟨ob, oo, J, G⟩ := inst_of I1 ea (fun d' z => by cases z; exact ⟨fs, ed⟩)
  obtain ⟨o, mA, rfl, hl, rel⟩ := G d fs rfl ed
  obtain ⟨w, hw, rw'⟩ := RelO.some_of (v := v) (o := mA f) (by rw [← el]; exact rel f)
  exact PySem.HandSPX.exc_get I1.kIn J T.ga T.gg T.ox.exC (PySem.W.findObj_own T.hd nf rfl (by rw [hl, hw])) (handed_of rw') ⟨v, H1, I1.tok _, rw', q⟩
theorem call_isO : CallR X (.builtin "isinstance") (rIsO X.K) := by
  intro pins s σ H xs us Q I r h
  obtain ⟨a, C, c, u, b, rfl, ea, T, cv, k1, q⟩ := h
  cases r with
  | cons rx rr =>
    cases rr with
    | cons rt rr =>
      cases rr
      cases rx
      have ec := ClsV.eq cv rt
      subst ec
      obtain ⟨ob, oo, J⟩ : ∃ (ob : Obj) (oo : Option Obj), PySem.W.InstAt s.heap a ob C oo := by
        rcases ea with ⟨d, fs, e1, e2⟩ | e1
        · obtain ⟨ob, oo, J, _⟩ := inst_of I e1 (fun d' z => by cases z; exact ⟨fs, e2⟩)
          exact ⟨ob, oo, J⟩
        · have z : ObjOk X.prog X.w H s.heap a (.ext fun h => ∃ (oe : Obj) (ws : Array Value), h.get? a = some oe ∧ Zc (.ref C) none oe ∧ oe.data = .fields ws ∧ ws[1]? = some .none ∧ ws[2]? = some .none ∧ 4 < ws.size) := I.hok a _ e1
          obtain ⟨oe, ws, g, zc, dt, _⟩ := z.1
          obtain ⟨oc, od, oda, osl⟩ := oe
          obtain ⟨h1, h2⟩ := zc
          dsimp only at h1 h2 dt
          subst h1 h2 dt
          exact ⟨_, none, g, rfl, rfl, trivial⟩
      exact PySem.W.kia_one (PySem.W.kitx_exc (gt := none) T.is T.ga T.gg T.ox.exC T.ca T.cg T.ct T.mo) I.kIn J k1 (fun z => nomatch z) fun tk => ⟨.bl b, H, I.tok _, rfl, q⟩
end
end X00
set_option Elab.async false
set_option linter.all false
set_option maxRecDepth 100000
set_option maxHeartbeats 4000000
namespace X00
open PySem L2
section
variable {X : Cx} {e : Expr} {es : List Expr} {ta : TA} {p pos : Pos}
/-- an error of one's own made by its own __init__, kept as a value -/
theorem pe_oex {x : Str} {C fI : Addr} {k : Nat} {fd : FuncData} {ps : List Str} {sp : Sp} (T : OexC X.K C)
    (iC : PySem.W.findIn X.K (.ref C) "__init__" = some (some (.ref fI)))
    (tI : PySem.W.typeIn X.K (.ref fI) = some (.type "function"))
    (G : FnOk X.prog X.w X.K X.mg X.base CX0 k fI fd ps sp) (hr : Room (k + 1) X.A)
    (hb : Binds X.K fd ps []) (hg : Gl X x) (hm : X.mg x = some (.ref C)) (ha : PA X (e :: es) ta)
    (hdb : (x == ("__debug__" : Str)) = false := by decide)
    (he : starEach (e :: es) X.env = (false, eval e X.env) :: starEach es X.env := by rfl)
    (hpl : (backTo pos (starEach es X.env)).any (·.1) = false := by rfl) :
    PE X (.Call (.Name x p) (e :: es) [] pos) (tMkV C sp ta) := by
  refine ⟨fun pins s σ H Q I h => ?_⟩
  have out := T.cls
  obtain ⟨nm, qn, N, bs, bm, sn, sb, ab, co, dd, a0, a1, a2, a3, a5, look, refs⟩ := out
  refine wpAny_Call_Name_kw (ld_glob I hg hm ?_ hdb)
  refine PySem.W.callWith_K (h₀ := X.base) I.ok.mod.kin T.kC ?_ he hpl
  refine thn (ha.run pos pins s σ H _ I h) fun us s1 ⟨vs, H1, I1, r1, small, q1⟩ => ⟨I1.kIn, ?_⟩
  show wpAny _ _ (call (.ref C) us) _ _ _
  obtain ⟨hp, gs, dw, tk, os⟩ := s1
  have above : hp.objs.size ≤ hp.objs.size + 1 := Nat.le_succ _
  have fresh : H1 (hp.objs.size + 1) = none := I1.hok.fresh above
  have told := q1 (hp.objs.size + 1) fresh
  have stays : ∀ b o, hp.get? b = some o →
      ((hp.push (PySem.W.kdv_tup us)).push (PySem.HandSPX.excO C hp.objs.size)).get? b = some o :=
    fun b o z => Heap.get?_push_of_some _ (Heap.get?_push_of_some _ z)
  have there : ((hp.push (PySem.W.kdv_tup us)).push (PySem.HandSPX.excO C hp.objs.size)).get? (hp.objs.size + 1)
      = some (PySem.HandSPX.excO C hp.objs.size) := by heap_get
  have I2 := I1.laid (t' := tk) (a := hp.objs.size + 1) (o := exo (hp.objs.size + 1) C none)
    (h' := (hp.push (PySem.W.kdv_tup us)).push (PySem.HandSPX.excO C hp.objs.size)) stays above (exo_ok there)
  have r2 : Vals (V.ref (hp.objs.size + 1) :: vs) (Value.ref (hp.objs.size + 1) :: us) := .cons rfl r1
  have many : (Value.ref (hp.objs.size + 1) :: us).length = ps.length := by
    have z := r2.length
    rw [G.len _ _ _ _ told] at z
    exact z.symm
  have fits : us.length ≤ sizeLine := by
    rw [← Paired.length r1, sizeLine_eq]
    omega
  have bound := hb _ (Value.ref (hp.objs.size + 1) :: us) I2.kIn (by rw [List.append_nil]; exact many)
  rw [List.append_nil] at bound
  have ran := G.run _ X.stack _ _ ⟨Value.ref (hp.objs.size + 1) :: us, []⟩ (Value.ref (hp.objs.size + 1) :: us) _ _ E0
    (hr.make C us []) (I2.env0.make C us []) bound r2 told
  refine wpAny_call (PySem.HandSPX.call_own F.excBase_ValueError (fun Y => PySem.HandSPX.refsVE_contains Y bm refs)
    (I1.kIn _ _ look) (PySem.W.looks_findIn I1.kIn iC) (fun self => PySem.W.bind_fn I1.kIn self tI) fits
    (codeAny_mono ran fun r s' post => ?_))
  cases r with
  | error er => exact pass0 pins σ _ _ er s' I2 post
  | ok fl =>
    cases fl with
    | ret u =>
      obtain ⟨v, H3, I3, rv, ev, q3⟩ := I2.after post
      subst ev
      exact ⟨rv, .ref (hp.objs.size + 1), H3, I3, rfl, q3⟩
    | next => exact False.elim post
    | brk => exact False.elim post
    | cont => exact False.elim post
end
end X00
set_option Elab.async false
set_option linter.all false
set_option maxRecDepth 100000
set_option maxHeartbeats 4000000
namespace X00
open PySem L2
/-- an __init__ that keeps its one argument under its own name -/
def spI1 (K : PySem.W.Frag) (C : Addr) (f : Str) : Sp := fun vs H Q _ => ∃ (a : Addr) (v : V), vs = [.ref a, v] ∧ OexC K C ∧ PySem.W.findIn K (.ref C) f = some none ∧ H a = some (exo a C none) ∧
  ∀ d, H d = none → d ≠ a → Q .non (upd (upd H d (exd d [(f, v)])) a (exo a C (some d)))
/-- one that keeps two -/
def spI2 (K : PySem.W.Frag) (C : Addr) (f g : Str) : Sp := fun vs H Q _ => ∃ (a : Addr) (v y : V), vs = [.ref a, v, y] ∧ OexC K C ∧ PySem.W.findIn K (.ref C) f = some none ∧ PySem.W.findIn K (.ref C) g = some none ∧ H a = some (exo a C none) ∧
  ∀ d, H d = none → d ≠ a → Q .non (upd (upd (upd H d (exd d [(f, v)])) a (exo a C (some d))) d (exd d [(g, y), (f, v)]))
def body1 (f : Str) (q1 q2 q3 q4 : Pos) : List Stmt := [.Assign [.Attribute (.Name "self" q1) f q2] (.Name f q3) q4]
def body2 (f g : Str) (q1 q2 q3 q4 p1 p2 p3 p4 : Pos) : List Stmt := [.Assign [.Attribute (.Name "self" q1) f q2] (.Name f q3) q4, .Assign [.Attribute (.Name "self" p1) g p2] (.Name g p3) p4]
section
variable {P : Program} {w : World} {K : PySem.W.Frag} {mg : Str → Option Value} {base : Heap}
theorem ok_init1 {q f : Str} {st : Stmt} {fI C : Addr} {fd : FuncData} {q1 q2 q3 q4 : Pos} (F : Fun K "__init__" q st fI fd) (S : FnScope ["self", f] ["self", f] (defScope st)) (hb : defBody st = body1 f q1 q2 q3 q4)
    (v0 : Vis (defScope st) "self") (v1 : Vis (defScope st) f) (n1 : (f == ("__debug__" : Str)) = false) (n2 : (f == ("__classdict__" : Str)) = false) : FnOk P w K mg base CX0 1 fI fd ["self", f] (spI1 K C f) := by
  refine F.ok S (fun vs H Q E h => ?_) (fun cdv A outer s H vs Q E hr h => ?_)
  · obtain ⟨_, _, rfl, _⟩ := h
    rfl
  · obtain ⟨a, v, rfl, T, nf, ea, k⟩ := h
    rw [hb]
    refine ⟨_, pss_one (ps_ost (pv 0 rfl v0) (pv 1 rfl v1 n1 n2)), ?_⟩
    exact ⟨_, rfl, _, rfl, a, C, rfl, T, nf, .inl ⟨ea, k⟩⟩
theorem ok_init2 {q f g : Str} {st : Stmt} {fI C : Addr} {fd : FuncData} {q1 q2 q3 q4 p1 p2 p3 p4 : Pos} (F : Fun K "__init__" q st fI fd) (S : FnScope ["self", f, g] ["self", f, g] (defScope st)) (hb : defBody st = body2 f g q1 q2 q3 q4 p1 p2 p3 p4)
    (v0 : Vis (defScope st) "self") (v1 : Vis (defScope st) f) (v2 : Vis (defScope st) g) (n1 : (f == ("__debug__" : Str)) = false) (n2 : (f == ("__classdict__" : Str)) = false) (m1 : (g == ("__debug__" : Str)) = false) (m2 : (g == ("__classdict__" : Str)) = false) :
    FnOk P w K mg base CX0 1 fI fd ["self", f, g] (spI2 K C f g) := by
  refine F.ok S (fun vs H Q E h => ?_) (fun cdv A outer s H vs Q E hr h => ?_)
  · obtain ⟨_, _, _, rfl, _⟩ := h
    rfl
  · obtain ⟨a, v, y, rfl, T, nf, ng, ea, k⟩ := h
    rw [hb]
    refine ⟨_, pss_cons (ps_ost (pv 0 rfl v0) (pv 1 rfl v1 n1 n2)) (pss_one (ps_ost (pv 0 rfl v0) (pv 2 rfl v2 m1 m2))), ?_⟩
    refine ⟨_, rfl, _, rfl, a, C, rfl, T, nf, .inl ⟨ea, fun d nd ne => ?_⟩⟩
    exact ⟨_, rfl, _, rfl, a, C, rfl, T, ng, .inr ⟨d, _, upd_same, by rw [upd_ne ne]; exact upd_same, by simp, k d nd ne⟩⟩
end
/-- what a call C(v) leaves -/
def Made (H H' : Hp) (e C : Addr) (fs : List (Str × V)) : Prop := Same H H' ∧ H e = none ∧ ∃ d, H' e = some (exo e C (some d)) ∧ H' d = some (exd d fs)
theorem made1 {H : Hp} {a d C : Addr} {fs : List (Str × V)} (na : H a = none) (nd : (upd H a (exo a C none)) d = none) (ne : d ≠ a) : Made H (upd (upd (upd H a (exo a C none)) d (exd d fs)) a (exo a C (some d))) a C fs := by
  rw [upd_ne ne] at nd
  refine ⟨fun b o e => ?_, na, d, upd_same, by rw [upd_ne ne, upd_same]⟩
  rw [upd_ne (ne_of_none e na), upd_ne (ne_of_none e nd), upd_ne (ne_of_none e na)]
  exact e
theorem made2 {H : Hp} {a d C : Addr} {fs gs : List (Str × V)} (na : H a = none) (nd : (upd H a (exo a C none)) d = none) (ne : d ≠ a) : Made H (upd (upd (upd (upd H a (exo a C none)) d (exd d fs)) a (exo a C (some d))) d (exd d gs)) a C gs := by
  rw [upd_ne ne] at nd
  refine ⟨fun b o e => ?_, na, d, by rw [upd_ne (Ne.symm ne), upd_same], by rw [upd_same]⟩
  rw [upd_ne (ne_of_none e nd), upd_ne (ne_of_none e na), upd_ne (ne_of_none e nd), upd_ne (ne_of_none e na)]
  exact e
/-- a class of errors with one field, as it stands behind the top -/
structure Er1 (K : PySem.W.Frag) (mg : Str → Option Value) (x f : Str) (st : Stmt) where
  C : Addr
  fI : Addr
  fd : FuncData
  g : mg x = some (.ref C)
  T : ErrC K C
  nf : PySem.W.findIn K (.ref C) f = some none
  iC : PySem.W.findIn K (.ref C) "__init__" = some (some (.ref fI))
  tI : PySem.W.typeIn K (.ref fI) = some (.type "function")
  b : Binds K fd ["self", f] []
  G : ∀ {P : Program} {w : World} {base : Heap}, FnOk P w K mg base CX0 1 fI fd ["self", f] (spI1 K C f)
structure Er2 (K : PySem.W.Frag) (mg : Str → Option Value) (x f h : Str) (st : Stmt) where
  C : Addr
  fI : Addr
  fd : FuncData
  g : mg x = some (.ref C)
  T : ErrC K C
  nf : PySem.W.findIn K (.ref C) f = some none
  nh : PySem.W.findIn K (.ref C) h = some none
  iC : PySem.W.findIn K (.ref C) "__init__" = some (some (.ref fI))
  tI : PySem.W.typeIn K (.ref fI) = some (.type "function")
  b : Binds K fd ["self", f, h] []
  G : ∀ {P : Program} {w : World} {base : Heap}, FnOk P w K mg base CX0 1 fI fd ["self", f, h] (spI2 K C f h)
def tM1 (C : Addr) (f : Str) (te : TE) : TE := fun σ H Q => te σ H fun v H1 => ∀ e H2, Made H1 H2 e C [(f, v)] → Q (.ref e) H2
def tM2 (C : Addr) (f h : Str) (te tf : TE) : TE := fun σ H Q => te σ H fun v H1 => tf σ H1 fun y H2 => ∀ e H3, Made H2 H3 e C [(h, y), (f, v)] → Q (.ref e) H3
section
variable {X : Cx} {p pos : Pos}
theorem PE.weak {e : Expr} {t u : TE} (h : PE X e t) (k : ∀ σ H Q, u σ H Q → t σ H Q) : PE X e u := ⟨fun pins s σ H Q I q => h.run pins s σ H Q I (k σ H Q q)⟩
theorem pe_m1 {x f : Str} {st : Stmt} {a : Expr} {ta : TE} (R : Er1 X.K X.mg x f st) (hr : Room 2 X.A) (hg : Gl X x) (ha : PE X a ta) (hmono : ∀ σ H (Q Q' : VK), (∀ v H', Q v H' → Q' v H') → ta σ H Q → ta σ H Q') (hdb : (x == ("__debug__" : Str)) = false := by decide)
    (he : starEach [a] X.env = (false, eval a X.env) :: starEach [] X.env := by rfl) (hpl : (backTo pos (starEach [] X.env)).any (·.1) = false := by rfl) : PE X (.Call (.Name x p) [a] [] pos) (tM1 R.C f ta) := by
  refine PE.weak (pe_oex R.T.ox R.iC R.tI R.G hr R.b hg R.g (pa_cons ha pa_nil he) hdb he hpl) fun σ H Q q => ?_
  refine hmono σ H _ _ (fun v H1 q1 => ?_) q
  refine ⟨by simp, fun e ne => ⟨e, v, rfl, R.T.ox, R.nf, upd_same, fun d nd dn => ⟨rfl, q1 e _ (made1 ne nd dn)⟩⟩⟩
theorem pe_m2 {x f h : Str} {st : Stmt} {a c : Expr} {ta tc : TE} (R : Er2 X.K X.mg x f h st) (hr : Room 2 X.A) (hg : Gl X x) (ha : PE X a ta) (hc : PE X c tc) (hmono : ∀ σ H (Q Q' : VK), (∀ v H', Q v H' → Q' v H') → ta σ H Q → ta σ H Q') (hmonc : ∀ σ H (Q Q' : VK), (∀ v H', Q v H' → Q' v H') → tc σ H Q → tc σ H Q') (hdb : (x == ("__debug__" : Str)) = false := by decide)
    (he : starEach [a, c] X.env = (false, eval a X.env) :: starEach [c] X.env := by rfl) (he2 : starEach [c] X.env = (false, eval c X.env) :: starEach [] X.env := by rfl) (hpl : (backTo pos (starEach [c] X.env)).any (·.1) = false := by rfl) : PE X (.Call (.Name x p) [a, c] [] pos) (tM2 R.C f h ta tc) := by
  refine PE.weak (pe_oex R.T.ox R.iC R.tI R.G hr R.b hg R.g (pa_cons ha (pa_cons hc pa_nil he2) he) hdb he hpl) fun σ H Q q => ?_
  refine hmono σ H _ _ (fun v H1 q1 => ?_) q
  refine hmonc σ H1 _ _ (fun y H2 q2 => ?_) q1
  refine ⟨by simp, fun e ne => ⟨e, v, y, rfl, R.T.ox, R.nf, R.nh, upd_same, fun d nd dn => ⟨rfl, q2 e _ (made2 ne nd dn)⟩⟩⟩
theorem mono_var (i : Nat) (σ : L2.St) (H : Hp) (Q Q' : VK) (k : ∀ v H', Q v H' → Q' v H') (q : tVar i σ H Q) : tVar i σ H Q' := by
  obtain ⟨v, e, q⟩ := q
  exact ⟨v, e, k _ _ q⟩
end
end X00
set_option Elab.async false
set_option linter.all false
set_option maxRecDepth 100000
set_option maxHeartbeats 4000000
namespace K00
open PySem L2
/-- a statement, then the rest, with a word between them -/
def tCut (t u : TS) : TS := fun D σ H => ∃ Mid : L2.St → Hp → Prop, t { D with nx := Mid } σ H ∧ ∀ σ' H', Mid σ' H' → u D σ' H'
theorem cut {X : Cx} {st : Stmt} {rest : List Stmt} {t u : TS} (h1 : PS X st t) (h2 : PSs X rest u) : PSs X (st :: rest) (tCut t u) := by
  refine ⟨fun pins s σ H D I h => ?_⟩
  obtain ⟨Mid, hm, hu⟩ := h
  refine wpAny_execs_cons (thn (h1.run pins s σ H { D with nx := Mid } I hm) fun f s1 q => ?_)
  cases f with
  | next =>
    obtain ⟨σ', H', I', q⟩ := q
    exact h2.run pins s1 σ' H' D I' (hu σ' H' q)
  | ret v => exact q
  | brk => exact q
  | cont => exact q
/-! ### the drawing hand -/
/-- a hand stands at h: its cells in a list at c -/
structure HandAt (H : Hp) (h c : Addr) (cells : List Int) (i rest total : Int) : Prop where
  oh : H h = some (.lst [.ref c, .int i, .int rest, .int total])
  oc : H c = some (.lst (cells.map V.int))
  ne : h ≠ c
  len : cells.length ≤ 63
  i0 : 0 ≤ i
  i1 : i ≤ 63
  r0 : 0 ≤ rest
  t0 : 0 ≤ total
  t1 : total < 4294967296
  pos : ∀ z ∈ cells, 0 ≤ z
def Hand (H : Hp) (h c : Addr) : Prop := ∃ cells i rest total, HandAt H h c cells i rest total
/-- all but h stands as it stood -/
def Kept (h : Addr) (H H' : Hp) : Prop := ∀ b o, b ≠ h → H b = some o → H' b = some o
theorem Kept.refl {h : Addr} {H : Hp} : Kept h H H := fun _ _ _ e => e
theorem Kept.trans {h : Addr} {H H1 H2 : Hp} (a : Kept h H H1) (b : Kept h H1 H2) : Kept h H H2 := fun c o n e => b c o n (a c o n e)
theorem Kept.upd {h : Addr} {H : Hp} {o : HO} : Kept h H (upd H h o) := fun b u n e => by rw [upd_ne n]; exact e
theorem kept_new {h p : Addr} {H : Hp} {o : HO} (n : H p = none) : Kept h H (upd H p o) := fun b u _ e => by rw [upd_ne (ne_of_none e n)]; exact e
theorem same_new {p : Addr} {H : Hp} {o : HO} (n : H p = none) : Same H (upd H p o) := fun b u e => by rw [upd_ne (ne_of_none e n)]; exact e
theorem Same.kept {h : Addr} {H H' : Hp} (s : Same H H') : Kept h H H' := fun b o _ e => s b o e
theorem HandAt.same {H H' : Hp} {h c : Addr} {cells : List Int} {i rest total : Int} (A : HandAt H h c cells i rest total) (s : Same H H') : HandAt H' h c cells i rest total :=
  { A with oh := s _ _ A.oh, oc := s _ _ A.oc }
theorem Hand.same {H H' : Hp} {h c : Addr} (A : Hand H h c) (s : Same H H') : Hand H' h c := by
  obtain ⟨cells, i, rest, total, A⟩ := A
  exact ⟨cells, i, rest, total, A.same s⟩
/-- the hand's own list changed -/
theorem HandAt.put {H : Hp} {h c : Addr} {cells : List Int} {i rest total i' rest' total' : Int} (A : HandAt H h c cells i rest total) (a0 : 0 ≤ i') (a1 : i' ≤ 63) (b0 : 0 ≤ rest') (c0 : 0 ≤ total') (c1 : total' < 4294967296) :
    HandAt (upd H h (.lst [.ref c, .int i', .int rest', .int total'])) h c cells i' rest' total' :=
  ⟨upd_same, by rw [upd_ne (Ne.symm A.ne)]; exact A.oc, A.ne, A.len, a0, a1, b0, c0, c1, A.pos⟩

def spHand (K : PySem.W.Frag) : Sp := fun vs H Q _ => ∃ (a : Addr) (ns : List Int), vs = [.ref a] ∧ SqL K H a (ns.map V.int) ∧ ns.length ≤ 63 ∧
  ∀ (h c : Addr) (H' : Hp), H h = none → Same H H' → Hand H' h c → Q (.ref h) H'
def spMixed : Sp := fun vs H Q _ => ∃ (n t : Int), vs = [.int n, .int t] ∧ 0 ≤ n ∧ n < 4294967296 ∧ 0 ≤ t ∧ t ≤ 64 ∧ ∀ r : Int, 0 ≤ r → Q (.int r) H
def spTake : Sp := fun vs H Q _ => ∃ (h c : Addr) (m : Int), vs = [.ref h, .int m] ∧ 0 < m ∧ m.natAbs < 2 ^ 9000 ∧ Hand H h c ∧
  ∀ (r : Int) (H' : Hp), 0 ≤ r → r < m → Kept h H H' → Hand H' h c → Q (.int r) H'
theorem small64 {n : Nat} (h : n ≤ 64) : n < sizeLine := small1000 (by omega)
structure TxA (K : PySem.W.Frag) (mg : Str → Option Value) where
  law_hand : Fn K mg "_law_hand" s_law_hand ["_law_script"]
  law_mixed : Fn K mg "_law_mixed" s_law_mixed ["_law_number", "_law_turn"]
  law_take : Fn K mg "_law_take" s_law_take ["_law_hand_here", "_law_many"]
  len : mg "len" = none
  abs : mg "abs" = none
  int : mg "int" = none
section
variable {P : Program} {w : World} {K : PySem.W.Frag} {mg : Str → Option Value} {base : Heap}
theorem ok_hand (T : TxA K mg) : FnOk P w K mg base CX0 1 T.law_hand.f T.law_hand.fd ["_law_script"] (spHand K) := by
  refine T.law_hand.F.ok sc_law_hand (fun vs H Q E h => ?_) (fun cdv A outer s H vs Q E hr h => ?_)
  · obtain ⟨a, ns, rfl, _⟩ := h
    rfl
  · obtain ⟨a, ns, rfl, hS, hlen, k⟩ := h
    refine ⟨_, (pss_cons (ps_set (i := 1) sc_law_hand.nd rfl (Or.inl rfl) (pe_op op_add (pe_callB call_len_seq (by rfl) T.len PySem.boot_len (pa_cons (pv 0) pa_nil)) pe_int))
  (pss_cons (ps_set (i := 2) sc_law_hand.nd rfl (Or.inl rfl) (pe_lst pa_nil))
  (pss_cons (ps_for PassesOwn.never rfl (pi_list (pv 0)) (pg_name (i := 3) sc_law_hand.nd rfl (Or.inl rfl))
  (pss_cons (ps_set (i := 1) sc_law_hand.nd rfl (Or.inl rfl) (pe_op op_mod (pe_callTy call_int1 (by rfl) T.int (by decide +kernel) (pa_cons (pe_op op_add (pe_op op_mulW (pv 1) pe_int) (pe_callTy call_int1 (by rfl) T.int (by decide +kernel) (pa_cons (pv 3) pa_nil))) pa_nil)) pe_int))
  (pss_one (ps_expr (pe_bm PySem.F.plainAttrs_list PySem.F.slot_list_append PySem.F.type_list_append mt_append (pv 2) (pa_cons (pe_callB call_abs (by rfl) T.abs (by decide +kernel) (pa_cons (pe_callTy call_int1 (by rfl) T.int (by decide +kernel) (pa_cons (pv 3) pa_nil)) pa_nil)) pa_nil))))))
  (pss_one (ps_ret (pe_lst (pa_cons (pv 2) (pa_cons pe_int (pa_cons pe_int (pa_cons (pv 1) pa_nil)))))))))), ?_⟩
    -- total = len(script) + 71; cells = []
    refine ⟨_, rfl, a, _, rfl, .inl hS, _, _, rfl, rfl, (by show 0 ≤ sizeLine; decide), fun c hc => ?_⟩
    have s0 : Same H (upd H c (.lst [])) := same_new hc
    refine ⟨_, rfl, a, rfl, ⟨_, s0.seq hS⟩, for_list (K := K) (a := a) (xs := ns.map V.int)
      (fun i σ H2 => ∃ (cells : List Int) (total : Int) (v : Option V), σ = [some (.ref a), some (.int total), some (.ref c), v] ∧ Same H H2 ∧ H2 c = some (.lst (cells.map V.int)) ∧ cells.length = i ∧ 0 ≤ total ∧ total < 4294967296 ∧ ∀ z ∈ cells, 0 ≤ z)
      ⟨[], _, none, rfl, s0, upd_same, rfl, ?_, ?_, by simp⟩ (fun i σ H2 _ ⟨_, _, _, _, s2, _⟩ => s2.seq hS) ?_ ?_⟩
    · simp only [List.length_map]; omega
    · simp only [List.length_map]; omega
    · rintro i y σ H2 hi ⟨cells, total, v, rfl, s2, hcs, hl, t0, t1, pos⟩
      have hil : i < (ns.map V.int).length := (List.getElem?_eq_some_iff.mp hi).1
      rw [List.length_map] at hil
      obtain ⟨z, rfl⟩ : ∃ z, y = V.int z := by
        rw [List.getElem?_map] at hi
        cases e : ns[i]? with
        | none => rw [e] at hi; cases hi
        | some z => rw [e] at hi; exact ⟨z, (Option.some.inj hi).symm⟩
      -- total = int(total * 1033 + int(cell)) % 2147483563
      refine ⟨_, rfl, _, _, rfl, rfl, wide_mul (a := 32) (b := 32) (by omega) (by decide) (by decide) (by decide) (by decide), _, rfl, .inl ⟨_, rfl, _, _, rfl, rfl, .inl ⟨_, rfl, _, _, rfl, rfl, (by show (0 : Int) < 2147483563; decide), ?_⟩⟩⟩
      -- cells.append(abs(int(cell)))
      refine ⟨_, rfl, .inl ⟨rfl, _, SqL.of hcs⟩, _, rfl, .inl ⟨_, rfl, _, rfl, c, _, _, rfl, rfl, hcs, small64 (by rw [List.length_map]; omega), ?_⟩⟩
      refine ⟨cells ++ [if z < 0 then -z else z], _, some (.int z), rfl, fun b o e => ?_, ?_, by simp [hl], ?_, ?_, ?_⟩
      · rw [upd_ne (ne_of_none e hc)]; exact s2 b o e
      · rw [upd_same, List.map_append]; rfl
      · exact Int.emod_nonneg _ (by decide)
      · have := Int.emod_lt_of_pos (total * 1033 + z) (show (0 : Int) < 2147483563 by decide)
        omega
      · intro x hx
        rcases List.mem_append.mp hx with hx | hx
        · exact pos x hx
        · rw [List.mem_singleton.mp hx]
          split <;> omega
    · rintro σ H2 ⟨cells, total, v, rfl, s2, hcs, hl, t0, t1, pos⟩
      rw [List.length_map] at hl
      refine ⟨_, rfl, _, rfl, (by show 4 ≤ sizeLine; decide), fun p hp => ?_⟩
      refine k p c _ (s2.free hp) (s2.trans (same_new hp)) ⟨cells, 0, 0, total, upd_same, ?_, (ne_of_none hcs hp).symm, by omega, by decide, by decide, by decide, t0, t1, pos⟩
      rw [upd_ne (ne_of_none hcs hp)]; exact hcs
end
end K00
set_option Elab.async false
set_option linter.all false
set_option maxRecDepth 100000
set_option maxHeartbeats 4000000
namespace K00
open PySem L2
theorem md {x m : Int} (h : 0 < m) : 0 ≤ x % m ∧ x % m < m := ⟨Int.emod_nonneg _ (by omega), Int.emod_lt_of_pos _ h⟩
section
variable {P : Program} {w : World} {K : PySem.W.Frag} {mg : Str → Option Value} {base : Heap}
theorem ok_mixed (T : TxA K mg) : FnOk P w K mg base CX0 1 T.law_mixed.f T.law_mixed.fd ["_law_number", "_law_turn"] spMixed := by
  refine T.law_mixed.F.ok sc_law_mixed (fun vs H Q E h => ?_) (fun cdv A outer s H vs Q E hr h => ?_)
  · obtain ⟨n, t, rfl, _⟩ := h
    rfl
  · obtain ⟨n, t, rfl, n0, n1, t0, t1, k⟩ := h
    refine ⟨_, (cut (ps_set (i := 2) sc_law_mixed.nd rfl (Or.inl rfl) (pe_op op_mod (pe_callTy call_int1 (by rfl) T.int (by decide +kernel) (pa_cons (pe_op op_add (pe_op op_add (pe_op op_mulW (pv 0) pe_int) (pe_op op_mulW (pv 1) pe_int)) pe_int) pa_nil)) pe_int))
  (cut (ps_set (i := 3) sc_law_mixed.nd rfl (Or.inl rfl) (pe_op op_mod (pe_callTy call_int1 (by rfl) T.int (by decide +kernel) (pa_cons (pe_op op_add (pe_op op_add (pe_op op_mulW (pv 2) (pv 2)) (pe_op op_mulW (pv 1) pe_int)) (pe_op op_fdivW (pv 2) pe_int)) pa_nil)) pe_int))
  (pss_one (ps_ret (pe_op op_fdivW (pe_callTy call_int1 (by rfl) T.int (by decide +kernel) (pa_cons (pe_op op_mod (pe_callTy call_int1 (by rfl) T.int (by decide +kernel) (pa_cons (pe_op op_add (pe_op op_mulW (pv 3) pe_int) (pe_op op_fdivW (pv 2) pe_int)) pa_nil)) pe_int) pa_nil)) pe_int))))), ?_⟩
    have wm : ∀ {x y : Int}, 0 ≤ x → x < 4294967296 → 0 ≤ y → y < 4294967296 → CMulW x y := fun a b c d => wide_mul (a := 32) (b := 32) (by omega) (by omega) (by decide) (by decide) (by decide)
    refine ⟨fun σ' H' => H' = H ∧ ∃ o : Int, (0 ≤ o ∧ o < 2147483399) ∧ σ' = [some (.int n), some (.int t), some (.int o), none], ?_, ?_⟩
    · exact ⟨_, rfl, _, _, rfl, rfl, wm n0 n1 (by decide) (by decide), _, rfl, _, _, rfl, rfl, wm t0 (by omega) (by decide) (by decide), _, _, rfl, rfl, _, _, rfl, rfl, .inl ⟨_, rfl, _, _, rfl, rfl, (by show (0 : Int) < 2147483399; decide), rfl, _, md (by decide), rfl⟩⟩
    rintro σ' H' ⟨rfl, o, o1, rfl⟩
    refine ⟨fun σ' H2 => H2 = H' ∧ ∃ q : Int, (0 ≤ q ∧ q < 2147483629) ∧ σ' = [some (.int n), some (.int t), some (.int o), some (.int q)], ?_, ?_⟩
    · exact ⟨_, rfl, _, rfl, _, _, rfl, rfl, wm o1.1 (by omega) o1.1 (by omega), _, rfl, _, _, rfl, rfl, wm t0 (by omega) (by decide) (by decide), _, _, rfl, rfl, _, rfl, _, _, rfl, rfl, wide_div (b := 8) (by decide) (by decide) (by decide) (by decide), _, _, rfl, rfl, .inl ⟨_, rfl, _, _, rfl, rfl, (by show (0 : Int) < 2147483629; decide), rfl, _, md (by decide), rfl⟩⟩
    rintro σ' H2 ⟨rfl, q, o2, rfl⟩
    exact ⟨_, rfl, _, _, rfl, rfl, wm o2.1 (by omega) (by decide) (by decide), _, rfl, _, _, rfl, rfl, wide_div (b := 8) (by decide) (by decide) (by decide) (by decide), _, _, rfl, rfl, .inl ⟨_, rfl, _, _, rfl, rfl, (by show (0 : Int) < 2147483587; decide), .inl ⟨_, rfl, _, _, rfl, rfl, wide_div (b := 8) (by decide) (by decide) (by decide) (by decide), k _ (Int.ediv_nonneg (md (by decide)).1 (by decide))⟩⟩⟩

theorem ok_take (T : TxA K mg) : FnOk P w K mg base CX0 2 T.law_take.f T.law_take.fd ["_law_hand_here", "_law_many"] spTake := by
  have GM : FnOk P w K mg base CX0 1 T.law_mixed.f T.law_mixed.fd ["_law_number", "_law_turn"] spMixed := ok_mixed T
  refine T.law_take.F.ok sc_law_take (fun vs H Q E h => ?_) (fun cdv A outer s H vs Q E hr h => ?_)
  · obtain ⟨n, _, t, rfl, _⟩ := h
    rfl
  · obtain ⟨h, c, m, rfl, m0, m1, ⟨cells, i, rest, total, A⟩, k⟩ := h
    refine ⟨_, (cut (ps_if (PW.pt (pw_and (pt_cmpR op_eq (pe_ix ix_list (pv 0) pe_int (fun _ _ => rfl)) pe_int (nomark _)) (pw_and1 (pt_cmpR op_lt (pe_ix ix_list (pv 0) pe_int (fun _ _ => rfl)) (pe_callB call_len_seq (by rfl) T.len PySem.boot_len (pa_cons (pe_ix ix_list (pv 0) pe_int (fun _ _ => rfl)) pa_nil)) (nomark _))))) (pss_cons (ps_set (i := 2) sc_law_take.nd rfl (Or.inl rfl) (pe_ix ix_list (pe_ix ix_list (pv 0) pe_int (fun _ _ => rfl)) (pe_ix ix_list (pv 0) pe_int (fun _ _ => rfl)) (fun _ _ => rfl)))
  (pss_cons (ps_asg (pe_op op_add (pe_ix ix_list (pv 0) pe_int (fun _ _ => rfl)) pe_int) (pg_sub (pv 0) pe_int set_list))
  (pss_cons (ps_if (pt_cmpR op_lt (pv 2) (pe_op op_pow pe_int pe_int) (nomark _)) (pss_one (ps_ret (pe_op op_mod (pe_callTy call_int1 (by rfl) T.int (by decide +kernel) (pa_cons (pe_call GM (hr.mono (by decide)) rfl T.law_mixed.g T.law_mixed.F.kp T.law_mixed.b .nil pass0 (pa_cons (pe_op op_mod (pe_callTy call_int1 (by rfl) T.int (by decide +kernel) (pa_cons (pv 2) pa_nil)) pe_int) (pa_cons (pe_ix ix_list (pv 0) pe_int (fun _ _ => rfl)) pa_nil))) pa_nil)) (pv 1)))) pss_nil)
  (pss_one (ps_asg (pv 2) (pg_sub (pv 0) pe_int set_list)))))) pss_nil)
  (pss_cons (ps_if (pt_cmpR op_gt (pe_ix ix_list (pv 0) pe_int (fun _ _ => rfl)) pe_int (nomark _)) (pss_cons (ps_set (i := 3) sc_law_take.nd rfl (Or.inl rfl) (pe_ix ix_list (pv 0) pe_int (fun _ _ => rfl)))
  (pss_cons (ps_asg (pe_op op_fdivW (pe_callTy call_int1 (by rfl) T.int (by decide +kernel) (pa_cons (pv 3) pa_nil)) (pv 1)) (pg_sub (pv 0) pe_int set_list))
  (pss_one (ps_ret (pe_op op_mod (pe_callTy call_int1 (by rfl) T.int (by decide +kernel) (pa_cons (pv 3) pa_nil)) (pv 1)))))) pss_nil)
  (cut (ps_asg (pe_op op_mod (pe_callTy call_int1 (by rfl) T.int (by decide +kernel) (pa_cons (pe_op op_add (pe_ix ix_list (pv 0) pe_int (fun _ _ => rfl)) pe_int) pa_nil)) pe_int) (pg_sub (pv 0) pe_int set_list))
  (pss_one (ps_ret (pe_op op_mod (pe_callTy call_int1 (by rfl) T.int (by decide +kernel) (pa_cons (pe_call GM (hr.mono (by decide)) rfl T.law_mixed.g T.law_mixed.F.kp T.law_mixed.b .nil pass0 (pa_cons (pe_ix ix_list (pv 0) pe_int (fun _ _ => rfl)) (pa_cons (pe_ix ix_list (pv 0) pe_int (fun _ _ => rfl)) pa_nil))) pa_nil)) (pv 1))))))), ?_⟩
    have at2 : ∀ {H2 : Hp} {i' r' t' : Int}, H2 h = some (.lst [.ref c, .int i', .int r', .int t']) → SqL K H2 h [.ref c, .int i', .int r', .int t'] := fun e => SqL.of e
    refine ⟨fun σ' H' => ∃ (i' rest' : Int) (v2 : Option V), σ' = [some (.ref h), some (.int m), v2, none] ∧ Kept h H H' ∧ HandAt H' h c cells i' rest' total, ?_, ?_⟩
    · refine ⟨_, rfl, h, _, 2, .int rest, rfl, rfl, at2 A.oh, atI_nat rfl, rfl, _, rfl, ?_⟩
      refine ite2 (fun e => ?_) (fun e => ?_)
      · refine ⟨_, rfl, h, _, 1, .int i, rfl, rfl, at2 A.oh, atI_nat rfl, _, rfl, h, _, 0, .ref c, rfl, rfl, at2 A.oh, atI_nat rfl, c, _, rfl, .inl (SqL.of A.oc), _, _, rfl, rfl, _, rfl, ?_⟩
        refine ite2 (fun e1 => ?_) (fun e1 => ?_)
        · rw [List.length_map] at e1
          have il : i < cells.length := of_decide_eq_true e1
          obtain ⟨z, hz⟩ : ∃ z, cells[i.toNat]? = some z := ⟨cells[i.toNat]'(by have := A.i0; omega), List.getElem?_eq_getElem _⟩
          have zp : 0 ≤ z := A.pos z (List.mem_of_getElem? hz)
          have A0 := A.i0
          have AL := A.len
          refine ⟨_, rfl, h, _, 0, .ref c, rfl, rfl, at2 A.oh, atI_nat rfl, _, rfl, h, _, 1, .int i, rfl, rfl, at2 A.oh, atI_nat rfl, c, _, i, .int z, rfl, rfl, SqL.of A.oc, at_of (j := i.toNat) (by omega) (by rw [List.getElem?_map, hz]; rfl), ?_⟩
          -- hand[1] = hand[1] + 1
          refine ⟨_, rfl, h, _, 1, .int i, rfl, rfl, at2 A.oh, atI_nat rfl, _, _, rfl, rfl, _, rfl, h, _, 1, 1, rfl, rfl, A.oh, rfl, ?_⟩
          have B : HandAt (upd H h (.lst [.ref c, .int (i + 1), .int rest, .int total])) h c cells (i + 1) rest total := A.put (by omega) (by omega) A.r0 A.t0 A.t1
          refine ⟨_, rfl, _, _, rfl, rfl, (by show CPow 10 18; unfold CPow; decide), _, _, rfl, rfl, _, rfl, ?_⟩
          refine ite2 (fun e2 => ?_) (fun e2 => ?_)
          · refine ⟨_, rfl, .inl ⟨_, rfl, _, _, rfl, rfl, (by show (0 : Int) < 2147483399; decide), _, rfl, h, _, 1, .int (i + 1), rfl, rfl, at2 B.oh, atI_nat rfl, _, _, rfl, (md (by decide)).1, ?_, by omega, by omega, fun r r0 => ?_⟩⟩
            · have := (md (x := z) (show (0 : Int) < 2147483399 by decide)).2
              omega
            · exact .inl ⟨_, rfl, _, rfl, _, _, rfl, rfl, m0, k _ _ (md m0).1 (md m0).2 Kept.upd ⟨_, _, _, _, B⟩⟩
          · refine ⟨_, rfl, _, rfl, h, _, 2, 2, rfl, rfl, B.oh, rfl, ?_⟩
            exact ⟨i + 1, z, _, rfl, Kept.upd.trans Kept.upd, B.put (by omega) (by omega) zp A.t0 A.t1⟩
        · exact ⟨i, rest, _, rfl, Kept.refl, A⟩
      · exact ⟨i, rest, _, rfl, Kept.refl, A⟩
    rintro σ' H2 ⟨i', rest', v2, rfl, kp, B⟩
    have B0 := B.i0
    have B1 := B.i1
    -- if hand[2] > 0
    refine ⟨_, rfl, h, _, 2, .int rest', rfl, rfl, at2 B.oh, atI_nat rfl, _, _, rfl, rfl, _, rfl, ?_⟩
    refine ite2 (fun e => ?_) (fun e => ?_)
    · refine ⟨_, rfl, h, _, 2, .int rest', rfl, rfl, at2 B.oh, atI_nat rfl, _, rfl, .inl ⟨_, rfl, _, rfl, _, _, rfl, rfl, wide_div m0 m1 (by decide) (by decide), _, rfl, h, _, 2, 2, rfl, rfl, B.oh, rfl, ?_⟩⟩
      refine ⟨_, rfl, .inl ⟨_, rfl, _, rfl, _, _, rfl, rfl, m0, k _ _ (md m0).1 (md m0).2 (kp.trans Kept.upd) ⟨_, _, _, _, B.put B.i0 B.i1 (Int.ediv_nonneg B.r0 (by omega)) B.t0 B.t1⟩⟩⟩
    · refine ⟨fun σ' H3 => ∃ total' : Int, σ' = [some (.ref h), some (.int m), v2, none] ∧ Kept h H H3 ∧ HandAt H3 h c cells i' rest' total', ?_, ?_⟩
      · have t2 := md (x := total + 1) (show (0 : Int) < 2147483563 by decide)
        refine ⟨_, rfl, h, _, 3, .int total, rfl, rfl, at2 B.oh, atI_nat rfl, _, _, rfl, rfl, .inl ⟨_, rfl, _, _, rfl, rfl, (by show (0 : Int) < 2147483563; decide), _, rfl, h, _, 3, 3, rfl, rfl, B.oh, rfl, ?_⟩⟩
        exact ⟨_, rfl, kp.trans Kept.upd, B.put B.i0 B.i1 B.r0 t2.1 (by omega)⟩
      rintro σ' H3 ⟨total', rfl, kp3, C⟩
      refine ⟨_, rfl, h, _, 3, .int total', rfl, rfl, at2 C.oh, atI_nat rfl, _, rfl, h, _, 1, .int i', rfl, rfl, at2 C.oh, atI_nat rfl, _, _, rfl, C.t0, C.t1, C.i0, by have := C.i1; omega, fun r r0 => ?_⟩
      exact .inl ⟨_, rfl, _, rfl, _, _, rfl, rfl, m0, k _ _ (md m0).1 (md m0).2 kp3 ⟨_, _, _, _, C⟩⟩
end
end K00
set_option Elab.async false
set_option linter.all false
set_option maxRecDepth 100000
set_option maxHeartbeats 8000000
namespace K00
open PySem L2 X00
def MrL (K : PySem.W.Frag) (C : Addr) (n : Str) (l : List Value) : Prop := ∃ cd, PySem.W.clsIn K C = some cd ∧ cd.name = n ∧ cd.mro = l
abbrev veT : List Value := [.type "ValueError", .type "Exception", .type "BaseException", .type "object"]
theorem MrL.ne {K : PySem.W.Frag} {C D : Addr} {n m : Str} {l r : List Value} (a : MrL K C n l) (b : MrL K D m r) (h : n ≠ m) : C ≠ D := by
  intro e
  subst e
  obtain ⟨c, c1, c2, _⟩ := a
  obtain ⟨d, d1, d2, _⟩ := b
  rw [c1] at d1
  cases d1
  exact h (c2.symm.trans d2)
theorem kit_err {K : PySem.W.Frag} {C D LE : Addr} {n m : Str} {l r : List Value} (mC : MrL K C n l) (hl : l = .ref C :: .ref LE :: veT ∨ l = .ref LE :: veT ∧ C = LE) (mD : MrL K D m r) (tD : PySem.W.typeIn K (.ref D) = some (.type "type")) (hDL : D ≠ LE) :
    PySem.W.kitOne K (.ref C) (.ref D) = some (decide (C = D)) := by
  unfold PySem.W.kitOne
  by_cases e : C = D
  · subst e
    rw [if_pos (beq_self_eq_true _), decide_eq_true rfl]
  · have ne : ¬ ((Value.ref C == Value.ref D) = true) := fun z => e (Value.ref.inj (beq_iff_eq.mp z))
    rw [if_neg ne, decide_eq_false e]
    obtain ⟨d, d1, _⟩ := mD
    obtain ⟨c, c1, _, c3⟩ := mC
    show (if ((PySem.W.clsIn K D).isSome && PySem.W.typeIn K (.ref D) == some (.type "type")) = true then PySem.W.subIn K (.ref C) (.ref D) else none) = some false
    rw [d1, tD, if_pos (by rfl)]
    show PySem.W.mroIn K C (.ref D) = some false
    unfold PySem.W.mroIn
    rw [c1]
    show (if c.mro.isEmpty = true then none else some (c.mro.contains (.ref D))) = some false
    have nD : ∀ x : Addr, x ≠ D → ((Value.ref D == Value.ref x) = false) := fun x hx => by
      cases q : (Value.ref D == Value.ref x) with
      | false => rfl
      | true => exact absurd (Value.ref.inj (beq_iff_eq.mp q)).symm hx
    rw [c3]
    rcases hl with rfl | ⟨rfl, _⟩
    · rw [if_neg (by simp)]
      simp [List.contains_cons, nD C e, nD LE (Ne.symm hDL)]
      exact ⟨fun z => e z.symm, hDL⟩
    · rw [if_neg (by simp)]
      simp [List.contains_cons, nD LE (Ne.symm hDL)]
      exact hDL
theorem sub_of {K : PySem.W.Frag} {C : Addr} {n : Str} {l : List Value} (mC : MrL K C n l) (v : Value) (h0 : l.isEmpty = false) (h : l.contains v = true) : PySem.W.subIn K (.ref C) v = some true := by
  obtain ⟨c, c1, _, c3⟩ := mC
  show PySem.W.mroIn K C v = some true
  unfold PySem.W.mroIn
  rw [c1]
  show (if c.mro.isEmpty = true then none else some (c.mro.contains v)) = some true
  rw [c3, h0, if_neg Bool.false_ne_true, h]
structure Tx (K : PySem.W.Frag) (mg : Str → Option Value) extends TxA K mg where
  LE : Addr
  gLE : mg "LetterError" = some (.ref LE)
  TLE : ErrC K LE
  mLE : MrL K LE "LetterError" (.ref LE :: veT)
  xLE : PySem.W.excIn K LE veT "ValueError.__new__" = true
  c_BadBox : Er2 K mg "BadBox" "index" "what" sI_BadBox
  m_BadBox : MrL K c_BadBox.C "BadBox" (.ref c_BadBox.C :: .ref LE :: veT)
  c_BadChart : Er2 K mg "BadChart" "index" "what" sI_BadChart
  m_BadChart : MrL K c_BadChart.C "BadChart" (.ref c_BadChart.C :: .ref LE :: veT)
  c_BadText : Er2 K mg "BadText" "row" "what" sI_BadText
  m_BadText : MrL K c_BadText.C "BadText" (.ref c_BadText.C :: .ref LE :: veT)
  c_BadCounts : Er2 K mg "BadCounts" "index" "what" sI_BadCounts
  m_BadCounts : MrL K c_BadCounts.C "BadCounts" (.ref c_BadCounts.C :: .ref LE :: veT)
  c_BadSurrounding : Er2 K mg "BadSurrounding" "name" "what" sI_BadSurrounding
  m_BadSurrounding : MrL K c_BadSurrounding.C "BadSurrounding" (.ref c_BadSurrounding.C :: .ref LE :: veT)
  c_BadTable : Er2 K mg "BadTable" "index" "what" sI_BadTable
  m_BadTable : MrL K c_BadTable.C "BadTable" (.ref c_BadTable.C :: .ref LE :: veT)
  c_BadShares : Er2 K mg "BadShares" "index" "what" sI_BadShares
  m_BadShares : MrL K c_BadShares.C "BadShares" (.ref c_BadShares.C :: .ref LE :: veT)
  c_BadWeights : Er2 K mg "BadWeights" "index" "what" sI_BadWeights
  m_BadWeights : MrL K c_BadWeights.C "BadWeights" (.ref c_BadWeights.C :: .ref LE :: veT)
  c_BadChanges : Er2 K mg "BadChanges" "index" "what" sI_BadChanges
  m_BadChanges : MrL K c_BadChanges.C "BadChanges" (.ref c_BadChanges.C :: .ref LE :: veT)
  c_BadHouse : Er2 K mg "BadHouse" "index" "what" sI_BadHouse
  m_BadHouse : MrL K c_BadHouse.C "BadHouse" (.ref c_BadHouse.C :: .ref LE :: veT)
  c_BadFinder : Er2 K mg "BadFinder" "index" "what" sI_BadFinder
  m_BadFinder : MrL K c_BadFinder.C "BadFinder" (.ref c_BadFinder.C :: .ref LE :: veT)
  c_BadGaps : Er2 K mg "BadGaps" "index" "what" sI_BadGaps
  m_BadGaps : MrL K c_BadGaps.C "BadGaps" (.ref c_BadGaps.C :: .ref LE :: veT)
  c_BadLook : Er2 K mg "BadLook" "index" "what" sI_BadLook
  m_BadLook : MrL K c_BadLook.C "BadLook" (.ref c_BadLook.C :: .ref LE :: veT)
  c_BadEdits : Er2 K mg "BadEdits" "index" "what" sI_BadEdits
  m_BadEdits : MrL K c_BadEdits.C "BadEdits" (.ref c_BadEdits.C :: .ref LE :: veT)
  c_BadRatio : Er1 K mg "BadRatio" "what" sI_BadRatio
  m_BadRatio : MrL K c_BadRatio.C "BadRatio" (.ref c_BadRatio.C :: .ref LE :: veT)
  c_NoFilling : Er1 K mg "NoFilling" "thing" sI_NoFilling
  m_NoFilling : MrL K c_NoFilling.C "NoFilling" (.ref c_NoFilling.C :: .ref LE :: veT)
  c_NoSuchBox : Er1 K mg "NoSuchBox" "index" sI_NoSuchBox
  m_NoSuchBox : MrL K c_NoSuchBox.C "NoSuchBox" (.ref c_NoSuchBox.C :: .ref LE :: veT)
  c_NoWire : Er1 K mg "NoWire" "name" sI_NoWire
  m_NoWire : MrL K c_NoWire.C "NoWire" (.ref c_NoWire.C :: .ref LE :: veT)
  c_BadIns : Er1 K mg "BadIns" "index" sI_BadIns
  m_BadIns : MrL K c_BadIns.C "BadIns" (.ref c_BadIns.C :: .ref LE :: veT)
  c_BadPost : Er1 K mg "BadPost" "index" sI_BadPost
  m_BadPost : MrL K c_BadPost.C "BadPost" (.ref c_BadPost.C :: .ref LE :: veT)
  c_ChanceBox : Er1 K mg "ChanceBox" "index" sI_ChanceBox
  m_ChanceBox : MrL K c_ChanceBox.C "ChanceBox" (.ref c_ChanceBox.C :: .ref LE :: veT)
  c_BadNaming : Er1 K mg "BadNaming" "index" sI_BadNaming
  m_BadNaming : MrL K c_BadNaming.C "BadNaming" (.ref c_BadNaming.C :: .ref LE :: veT)
  c_BadOrder : Er1 K mg "BadOrder" "order" sI_BadOrder
  m_BadOrder : MrL K c_BadOrder.C "BadOrder" (.ref c_BadOrder.C :: .ref LE :: veT)
  c_BadDays : Er1 K mg "BadDays" "days" sI_BadDays
  m_BadDays : MrL K c_BadDays.C "BadDays" (.ref c_BadDays.C :: .ref LE :: veT)
  c_TooMany : Er1 K mg "TooMany" "most" sI_TooMany
  m_TooMany : MrL K c_TooMany.C "TooMany" (.ref c_TooMany.C :: .ref LE :: veT)
  c_NoStory : Er1 K mg "NoStory" "thing" sI_NoStory
  m_NoStory : MrL K c_NoStory.C "NoStory" (.ref c_NoStory.C :: .ref LE :: veT)
  c_HasStory : Er1 K mg "HasStory" "filling" sI_HasStory
  m_HasStory : MrL K c_HasStory.C "HasStory" (.ref c_HasStory.C :: .ref LE :: veT)
  c_NoLetter : Er1 K mg "NoLetter" "name" sI_NoLetter
  m_NoLetter : MrL K c_NoLetter.C "NoLetter" (.ref c_NoLetter.C :: .ref LE :: veT)
  c_OtherWires : Er1 K mg "OtherWires" "what" sI_OtherWires
  m_OtherWires : MrL K c_OtherWires.C "OtherWires" (.ref c_OtherWires.C :: .ref LE :: veT)
  c_NoBox : Er1 K mg "NoBox" "what" sI_NoBox
  m_NoBox : MrL K c_NoBox.C "NoBox" (.ref c_NoBox.C :: .ref LE :: veT)
  c_BadLot : Er1 K mg "BadLot" "index" sI_BadLot
  m_BadLot : MrL K c_BadLot.C "BadLot" (.ref c_BadLot.C :: .ref LE :: veT)
  c_NoRing : Er1 K mg "NoRing" "lot" sI_NoRing
  m_NoRing : MrL K c_NoRing.C "NoRing" (.ref c_NoRing.C :: .ref LE :: veT)
  c_BadTurns : Er1 K mg "BadTurns" "turns" sI_BadTurns
  m_BadTurns : MrL K c_BadTurns.C "BadTurns" (.ref c_BadTurns.C :: .ref LE :: veT)
  c_NotStaying : Er1 K mg "NotStaying" "post" sI_NotStaying
  m_NotStaying : MrL K c_NotStaying.C "NotStaying" (.ref c_NotStaying.C :: .ref LE :: veT)
  c_BadOuts : Er1 K mg "BadOuts" "outs" sI_BadOuts
  m_BadOuts : MrL K c_BadOuts.C "BadOuts" (.ref c_BadOuts.C :: .ref LE :: veT)
  c_BadShare : Er1 K mg "BadShare" "share" sI_BadShare
  m_BadShare : MrL K c_BadShare.C "BadShare" (.ref c_BadShare.C :: .ref LE :: veT)
  c_BadSlip : Er1 K mg "BadSlip" "slip" sI_BadSlip
  m_BadSlip : MrL K c_BadSlip.C "BadSlip" (.ref c_BadSlip.C :: .ref LE :: veT)
  c_BadNear : Er1 K mg "BadNear" "within" sI_BadNear
  m_BadNear : MrL K c_BadNear.C "BadNear" (.ref c_BadNear.C :: .ref LE :: veT)
  c_BadTold : Er1 K mg "BadTold" "index" sI_BadTold
  m_BadTold : MrL K c_BadTold.C "BadTold" (.ref c_BadTold.C :: .ref LE :: veT)
  c_BadNames : Er1 K mg "BadNames" "index" sI_BadNames
  m_BadNames : MrL K c_BadNames.C "BadNames" (.ref c_BadNames.C :: .ref LE :: veT)
  c_NotKnown : Er1 K mg "NotKnown" "name" sI_NotKnown
  m_NotKnown : MrL K c_NotKnown.C "NotKnown" (.ref c_NotKnown.C :: .ref LE :: veT)
  c_NotMade : Er1 K mg "NotMade" "name" sI_NotMade
  m_NotMade : MrL K c_NotMade.C "NotMade" (.ref c_NotMade.C :: .ref LE :: veT)
  c_NotLeft : Er1 K mg "NotLeft" "worth" sI_NotLeft
  m_NotLeft : MrL K c_NotLeft.C "NotLeft" (.ref c_NotLeft.C :: .ref LE :: veT)
  c_NoKey : Er1 K mg "NoKey" "filling" sI_NoKey
  m_NoKey : MrL K c_NoKey.C "NoKey" (.ref c_NoKey.C :: .ref LE :: veT)
  c_BadCustom : Er1 K mg "BadCustom" "custom" sI_BadCustom
  m_BadCustom : MrL K c_BadCustom.C "BadCustom" (.ref c_BadCustom.C :: .ref LE :: veT)
  c_BadWish : Er1 K mg "BadWish" "what" sI_BadWish
  m_BadWish : MrL K c_BadWish.C "BadWish" (.ref c_BadWish.C :: .ref LE :: veT)
  c_NotOneBox : Er1 K mg "NotOneBox" "what" sI_NotOneBox
  m_NotOneBox : MrL K c_NotOneBox.C "NotOneBox" (.ref c_NotOneBox.C :: .ref LE :: veT)
  c_BadHand : Er1 K mg "BadHand" "hand" sI_BadHand
  m_BadHand : MrL K c_BadHand.C "BadHand" (.ref c_BadHand.C :: .ref LE :: veT)
  c_BadLetter : Er1 K mg "BadLetter" "letter" sI_BadLetter
  m_BadLetter : MrL K c_BadLetter.C "BadLetter" (.ref c_BadLetter.C :: .ref LE :: veT)
  c_BadExchange : Er1 K mg "BadExchange" "what" sI_BadExchange
  m_BadExchange : MrL K c_BadExchange.C "BadExchange" (.ref c_BadExchange.C :: .ref LE :: veT)
  c_BadDay : Er1 K mg "BadDay" "day" sI_BadDay
  m_BadDay : MrL K c_BadDay.C "BadDay" (.ref c_BadDay.C :: .ref LE :: veT)
  c_NoDayStory : Er1 K mg "NoDayStory" "number" sI_NoDayStory
  m_NoDayStory : MrL K c_NoDayStory.C "NoDayStory" (.ref c_NoDayStory.C :: .ref LE :: veT)
  c_BadRound : Er1 K mg "BadRound" "what" sI_BadRound
  m_BadRound : MrL K c_BadRound.C "BadRound" (.ref c_BadRound.C :: .ref LE :: veT)
  c_OtherLetters : Er1 K mg "OtherLetters" "size" sI_OtherLetters
  m_OtherLetters : MrL K c_OtherLetters.C "OtherLetters" (.ref c_OtherLetters.C :: .ref LE :: veT)
  c_NotIn : Er1 K mg "NotIn" "name" sI_NotIn
  m_NotIn : MrL K c_NotIn.C "NotIn" (.ref c_NotIn.C :: .ref LE :: veT)
  c_BadManner : Er1 K mg "BadManner" "manner" sI_BadManner
  m_BadManner : MrL K c_BadManner.C "BadManner" (.ref c_BadManner.C :: .ref LE :: veT)
  c_BadPool : Er1 K mg "BadPool" "index" sI_BadPool
  m_BadPool : MrL K c_BadPool.C "BadPool" (.ref c_BadPool.C :: .ref LE :: veT)
  c_BadGoal : Er1 K mg "BadGoal" "what" sI_BadGoal
  m_BadGoal : MrL K c_BadGoal.C "BadGoal" (.ref c_BadGoal.C :: .ref LE :: veT)
  c_NothingLeft : Er1 K mg "NothingLeft" "many" sI_NothingLeft
  m_NothingLeft : MrL K c_NothingLeft.C "NothingLeft" (.ref c_NothingLeft.C :: .ref LE :: veT)
  c_StillTrial : Er1 K mg "StillTrial" "deeds" sI_StillTrial
  m_StillTrial : MrL K c_StillTrial.C "StillTrial" (.ref c_StillTrial.C :: .ref LE :: veT)
  law_pairs : Fn K mg "_law_pairs" s_law_pairs ["_law_a", "_law_b"]
  law_first : Fn K mg "_law_first" s_law_first ["_law_a"]
  law_second : Fn K mg "_law_second" s_law_second ["_law_a"]
  law_kinds : Fn K mg "_law_kinds" s_law_kinds ["_law_e"]
  isinstance : mg "isinstance" = none
  range : mg "range" = none
  ValueError : mg "ValueError" = none
/-- the classes in the order in which they are asked and made -/
def Tx.Ds {K : PySem.W.Frag} {mg : Str → Option Value} (T : Tx K mg) : List Addr := [T.c_BadBox.C, T.c_BadChart.C, T.c_BadText.C, T.c_BadCounts.C, T.c_BadSurrounding.C, T.c_BadTable.C, T.c_BadShares.C, T.c_BadWeights.C, T.c_BadChanges.C, T.c_BadHouse.C, T.c_BadFinder.C, T.c_BadGaps.C, T.c_BadLook.C, T.c_BadEdits.C, T.c_BadRatio.C, T.c_NoFilling.C, T.c_NoSuchBox.C, T.c_NoWire.C, T.c_BadIns.C, T.c_BadPost.C, T.c_ChanceBox.C, T.c_BadNaming.C, T.c_BadOrder.C, T.c_BadDays.C, T.c_TooMany.C, T.c_NoStory.C, T.c_HasStory.C, T.c_NoLetter.C, T.c_OtherWires.C, T.c_NoBox.C, T.c_BadLot.C, T.c_NoRing.C, T.c_BadTurns.C, T.c_NotStaying.C, T.c_BadOuts.C, T.c_BadShare.C, T.c_BadSlip.C, T.c_BadNear.C, T.c_BadTold.C, T.c_BadNames.C, T.c_NotKnown.C, T.c_NotMade.C, T.c_NotLeft.C, T.c_NoKey.C, T.c_BadCustom.C, T.c_BadWish.C, T.c_NotOneBox.C, T.c_BadHand.C, T.c_BadLetter.C, T.c_BadExchange.C, T.c_BadDay.C, T.c_NoDayStory.C, T.c_BadRound.C, T.c_OtherLetters.C, T.c_NotIn.C, T.c_BadManner.C, T.c_BadPool.C, T.c_BadGoal.C, T.c_NothingLeft.C, T.c_StillTrial.C]
/-- an error that the law may hold: of one of the classes, or a LetterError -/
structure Held (K : PySem.W.Frag) (LE : Addr) (H : Hp) (a C : Addr) : Prop where
  e : IsErr H a C
  T : ErrC K C
  m : ∃ n l, MrL K C n l ∧ (l = .ref C :: .ref LE :: veT ∨ l = .ref LE :: veT ∧ C = LE)
theorem isErr_same {H H' : Hp} {a C : Addr} (h : IsErr H a C) (s : Same H H') : IsErr H' a C := by
  rcases h with ⟨d, fs, e1, e2⟩ | e
  · exact .inl ⟨d, fs, s _ _ e1, s _ _ e2⟩
  · exact .inr (s _ _ e)
theorem Held.same {K : PySem.W.Frag} {LE : Addr} {H H' : Hp} {a C : Addr} (h : Held K LE H a C) (s : Same H H') : Held K LE H' a C := ⟨isErr_same h.e s, h.T, h.m⟩
def kindV (Ds : List Addr) (C : Addr) : List V := Ds.map fun D => .bl (decide (C = D))
def spKinds (K : PySem.W.Frag) (LE : Addr) (Ds : List Addr) : Sp := fun vs H Q _ => ∃ (a C : Addr), vs = [.ref a] ∧ Held K LE H a C ∧ ∀ (p : Addr) (H' : Hp), Same H H' → H p = none → H' p = some (.lst (kindV Ds C)) → Q (.ref p) H'
section
variable {P : Program} {w : World} {K : PySem.W.Frag} {mg : Str → Option Value} {base : Heap}
theorem ok_kinds (T : Tx K mg) : FnOk P w K mg base CX0 1 T.law_kinds.f T.law_kinds.fd ["_law_e"] (spKinds K T.LE T.Ds) := by
  refine T.law_kinds.F.ok sc_law_kinds (fun vs H Q E h => ?_) (fun cdv A outer s H vs Q E hr h => ?_)
  · obtain ⟨_, _, rfl, _⟩ := h
    rfl
  · obtain ⟨a, C, rfl, hE, k⟩ := h
    obtain ⟨n, l, mC, hl⟩ := hE.m
    refine ⟨_, (cut (ps_set (i := 1) sc_law_kinds.nd rfl (Or.inl rfl) (pe_lst (pa_cons (pe_callB call_isO (by rfl) T.isinstance (by decide +kernel) (pa_cons (pv 0) (pa_cons (pe_glob (v := .ref T.c_BadBox.C) rfl T.c_BadBox.g rfl) pa_nil))) (pa_cons (pe_callB call_isO (by rfl) T.isinstance (by decide +kernel) (pa_cons (pv 0) (pa_cons (pe_glob (v := .ref T.c_BadChart.C) rfl T.c_BadChart.g rfl) pa_nil))) (pa_cons (pe_callB call_isO (by rfl) T.isinstance (by decide +kernel) (pa_cons (pv 0) (pa_cons (pe_glob (v := .ref T.c_BadText.C) rfl T.c_BadText.g rfl) pa_nil))) (pa_cons (pe_callB call_isO (by rfl) T.isinstance (by decide +kernel) (pa_cons (pv 0) (pa_cons (pe_glob (v := .ref T.c_BadCounts.C) rfl T.c_BadCounts.g rfl) pa_nil))) (pa_cons (pe_callB call_isO (by rfl) T.isinstance (by decide +kernel) (pa_cons (pv 0) (pa_cons (pe_glob (v := .ref T.c_BadSurrounding.C) rfl T.c_BadSurrounding.g rfl) pa_nil))) pa_nil)))))))
  (cut (ps_set (i := 1) sc_law_kinds.nd rfl (Or.inl rfl) (pe_op op_cat (pv 1) (pe_lst (pa_cons (pe_callB call_isO (by rfl) T.isinstance (by decide +kernel) (pa_cons (pv 0) (pa_cons (pe_glob (v := .ref T.c_BadTable.C) rfl T.c_BadTable.g rfl) pa_nil))) (pa_cons (pe_callB call_isO (by rfl) T.isinstance (by decide +kernel) (pa_cons (pv 0) (pa_cons (pe_glob (v := .ref T.c_BadShares.C) rfl T.c_BadShares.g rfl) pa_nil))) (pa_cons (pe_callB call_isO (by rfl) T.isinstance (by decide +kernel) (pa_cons (pv 0) (pa_cons (pe_glob (v := .ref T.c_BadWeights.C) rfl T.c_BadWeights.g rfl) pa_nil))) (pa_cons (pe_callB call_isO (by rfl) T.isinstance (by decide +kernel) (pa_cons (pv 0) (pa_cons (pe_glob (v := .ref T.c_BadChanges.C) rfl T.c_BadChanges.g rfl) pa_nil))) pa_nil)))))))
  (cut (ps_set (i := 1) sc_law_kinds.nd rfl (Or.inl rfl) (pe_op op_cat (pv 1) (pe_lst (pa_cons (pe_callB call_isO (by rfl) T.isinstance (by decide +kernel) (pa_cons (pv 0) (pa_cons (pe_glob (v := .ref T.c_BadHouse.C) rfl T.c_BadHouse.g rfl) pa_nil))) (pa_cons (pe_callB call_isO (by rfl) T.isinstance (by decide +kernel) (pa_cons (pv 0) (pa_cons (pe_glob (v := .ref T.c_BadFinder.C) rfl T.c_BadFinder.g rfl) pa_nil))) (pa_cons (pe_callB call_isO (by rfl) T.isinstance (by decide +kernel) (pa_cons (pv 0) (pa_cons (pe_glob (v := .ref T.c_BadGaps.C) rfl T.c_BadGaps.g rfl) pa_nil))) (pa_cons (pe_callB call_isO (by rfl) T.isinstance (by decide +kernel) (pa_cons (pv 0) (pa_cons (pe_glob (v := .ref T.c_BadLook.C) rfl T.c_BadLook.g rfl) pa_nil))) (pa_cons (pe_callB call_isO (by rfl) T.isinstance (by decide +kernel) (pa_cons (pv 0) (pa_cons (pe_glob (v := .ref T.c_BadEdits.C) rfl T.c_BadEdits.g rfl) pa_nil))) pa_nil))))))))
  (cut (ps_set (i := 1) sc_law_kinds.nd rfl (Or.inl rfl) (pe_op op_cat (pv 1) (pe_lst (pa_cons (pe_callB call_isO (by rfl) T.isinstance (by decide +kernel) (pa_cons (pv 0) (pa_cons (pe_glob (v := .ref T.c_BadRatio.C) rfl T.c_BadRatio.g rfl) pa_nil))) (pa_cons (pe_callB call_isO (by rfl) T.isinstance (by decide +kernel) (pa_cons (pv 0) (pa_cons (pe_glob (v := .ref T.c_NoFilling.C) rfl T.c_NoFilling.g rfl) pa_nil))) (pa_cons (pe_callB call_isO (by rfl) T.isinstance (by decide +kernel) (pa_cons (pv 0) (pa_cons (pe_glob (v := .ref T.c_NoSuchBox.C) rfl T.c_NoSuchBox.g rfl) pa_nil))) (pa_cons (pe_callB call_isO (by rfl) T.isinstance (by decide +kernel) (pa_cons (pv 0) (pa_cons (pe_glob (v := .ref T.c_NoWire.C) rfl T.c_NoWire.g rfl) pa_nil))) (pa_cons (pe_callB call_isO (by rfl) T.isinstance (by decide +kernel) (pa_cons (pv 0) (pa_cons (pe_glob (v := .ref T.c_BadIns.C) rfl T.c_BadIns.g rfl) pa_nil))) pa_nil))))))))
  (cut (ps_set (i := 1) sc_law_kinds.nd rfl (Or.inl rfl) (pe_op op_cat (pv 1) (pe_lst (pa_cons (pe_callB call_isO (by rfl) T.isinstance (by decide +kernel) (pa_cons (pv 0) (pa_cons (pe_glob (v := .ref T.c_BadPost.C) rfl T.c_BadPost.g rfl) pa_nil))) (pa_cons (pe_callB call_isO (by rfl) T.isinstance (by decide +kernel) (pa_cons (pv 0) (pa_cons (pe_glob (v := .ref T.c_ChanceBox.C) rfl T.c_ChanceBox.g rfl) pa_nil))) (pa_cons (pe_callB call_isO (by rfl) T.isinstance (by decide +kernel) (pa_cons (pv 0) (pa_cons (pe_glob (v := .ref T.c_BadNaming.C) rfl T.c_BadNaming.g rfl) pa_nil))) (pa_cons (pe_callB call_isO (by rfl) T.isinstance (by decide +kernel) (pa_cons (pv 0) (pa_cons (pe_glob (v := .ref T.c_BadOrder.C) rfl T.c_BadOrder.g rfl) pa_nil))) (pa_cons (pe_callB call_isO (by rfl) T.isinstance (by decide +kernel) (pa_cons (pv 0) (pa_cons (pe_glob (v := .ref T.c_BadDays.C) rfl T.c_BadDays.g rfl) pa_nil))) pa_nil))))))))
  (cut (ps_set (i := 1) sc_law_kinds.nd rfl (Or.inl rfl) (pe_op op_cat (pv 1) (pe_lst (pa_cons (pe_callB call_isO (by rfl) T.isinstance (by decide +kernel) (pa_cons (pv 0) (pa_cons (pe_glob (v := .ref T.c_TooMany.C) rfl T.c_TooMany.g rfl) pa_nil))) (pa_cons (pe_callB call_isO (by rfl) T.isinstance (by decide +kernel) (pa_cons (pv 0) (pa_cons (pe_glob (v := .ref T.c_NoStory.C) rfl T.c_NoStory.g rfl) pa_nil))) (pa_cons (pe_callB call_isO (by rfl) T.isinstance (by decide +kernel) (pa_cons (pv 0) (pa_cons (pe_glob (v := .ref T.c_HasStory.C) rfl T.c_HasStory.g rfl) pa_nil))) (pa_cons (pe_callB call_isO (by rfl) T.isinstance (by decide +kernel) (pa_cons (pv 0) (pa_cons (pe_glob (v := .ref T.c_NoLetter.C) rfl T.c_NoLetter.g rfl) pa_nil))) (pa_cons (pe_callB call_isO (by rfl) T.isinstance (by decide +kernel) (pa_cons (pv 0) (pa_cons (pe_glob (v := .ref T.c_OtherWires.C) rfl T.c_OtherWires.g rfl) pa_nil))) pa_nil))))))))
  (cut (ps_set (i := 1) sc_law_kinds.nd rfl (Or.inl rfl) (pe_op op_cat (pv 1) (pe_lst (pa_cons (pe_callB call_isO (by rfl) T.isinstance (by decide +kernel) (pa_cons (pv 0) (pa_cons (pe_glob (v := .ref T.c_NoBox.C) rfl T.c_NoBox.g rfl) pa_nil))) (pa_cons (pe_callB call_isO (by rfl) T.isinstance (by decide +kernel) (pa_cons (pv 0) (pa_cons (pe_glob (v := .ref T.c_BadLot.C) rfl T.c_BadLot.g rfl) pa_nil))) (pa_cons (pe_callB call_isO (by rfl) T.isinstance (by decide +kernel) (pa_cons (pv 0) (pa_cons (pe_glob (v := .ref T.c_NoRing.C) rfl T.c_NoRing.g rfl) pa_nil))) (pa_cons (pe_callB call_isO (by rfl) T.isinstance (by decide +kernel) (pa_cons (pv 0) (pa_cons (pe_glob (v := .ref T.c_BadTurns.C) rfl T.c_BadTurns.g rfl) pa_nil))) (pa_cons (pe_callB call_isO (by rfl) T.isinstance (by decide +kernel) (pa_cons (pv 0) (pa_cons (pe_glob (v := .ref T.c_NotStaying.C) rfl T.c_NotStaying.g rfl) pa_nil))) pa_nil))))))))
  (cut (ps_set (i := 1) sc_law_kinds.nd rfl (Or.inl rfl) (pe_op op_cat (pv 1) (pe_lst (pa_cons (pe_callB call_isO (by rfl) T.isinstance (by decide +kernel) (pa_cons (pv 0) (pa_cons (pe_glob (v := .ref T.c_BadOuts.C) rfl T.c_BadOuts.g rfl) pa_nil))) (pa_cons (pe_callB call_isO (by rfl) T.isinstance (by decide +kernel) (pa_cons (pv 0) (pa_cons (pe_glob (v := .ref T.c_BadShare.C) rfl T.c_BadShare.g rfl) pa_nil))) (pa_cons (pe_callB call_isO (by rfl) T.isinstance (by decide +kernel) (pa_cons (pv 0) (pa_cons (pe_glob (v := .ref T.c_BadSlip.C) rfl T.c_BadSlip.g rfl) pa_nil))) (pa_cons (pe_callB call_isO (by rfl) T.isinstance (by decide +kernel) (pa_cons (pv 0) (pa_cons (pe_glob (v := .ref T.c_BadNear.C) rfl T.c_BadNear.g rfl) pa_nil))) (pa_cons (pe_callB call_isO (by rfl) T.isinstance (by decide +kernel) (pa_cons (pv 0) (pa_cons (pe_glob (v := .ref T.c_BadTold.C) rfl T.c_BadTold.g rfl) pa_nil))) pa_nil))))))))
  (cut (ps_set (i := 1) sc_law_kinds.nd rfl (Or.inl rfl) (pe_op op_cat (pv 1) (pe_lst (pa_cons (pe_callB call_isO (by rfl) T.isinstance (by decide +kernel) (pa_cons (pv 0) (pa_cons (pe_glob (v := .ref T.c_BadNames.C) rfl T.c_BadNames.g rfl) pa_nil))) (pa_cons (pe_callB call_isO (by rfl) T.isinstance (by decide +kernel) (pa_cons (pv 0) (pa_cons (pe_glob (v := .ref T.c_NotKnown.C) rfl T.c_NotKnown.g rfl) pa_nil))) (pa_cons (pe_callB call_isO (by rfl) T.isinstance (by decide +kernel) (pa_cons (pv 0) (pa_cons (pe_glob (v := .ref T.c_NotMade.C) rfl T.c_NotMade.g rfl) pa_nil))) (pa_cons (pe_callB call_isO (by rfl) T.isinstance (by decide +kernel) (pa_cons (pv 0) (pa_cons (pe_glob (v := .ref T.c_NotLeft.C) rfl T.c_NotLeft.g rfl) pa_nil))) (pa_cons (pe_callB call_isO (by rfl) T.isinstance (by decide +kernel) (pa_cons (pv 0) (pa_cons (pe_glob (v := .ref T.c_NoKey.C) rfl T.c_NoKey.g rfl) pa_nil))) pa_nil))))))))
  (cut (ps_set (i := 1) sc_law_kinds.nd rfl (Or.inl rfl) (pe_op op_cat (pv 1) (pe_lst (pa_cons (pe_callB call_isO (by rfl) T.isinstance (by decide +kernel) (pa_cons (pv 0) (pa_cons (pe_glob (v := .ref T.c_BadCustom.C) rfl T.c_BadCustom.g rfl) pa_nil))) (pa_cons (pe_callB call_isO (by rfl) T.isinstance (by decide +kernel) (pa_cons (pv 0) (pa_cons (pe_glob (v := .ref T.c_BadWish.C) rfl T.c_BadWish.g rfl) pa_nil))) (pa_cons (pe_callB call_isO (by rfl) T.isinstance (by decide +kernel) (pa_cons (pv 0) (pa_cons (pe_glob (v := .ref T.c_NotOneBox.C) rfl T.c_NotOneBox.g rfl) pa_nil))) (pa_cons (pe_callB call_isO (by rfl) T.isinstance (by decide +kernel) (pa_cons (pv 0) (pa_cons (pe_glob (v := .ref T.c_BadHand.C) rfl T.c_BadHand.g rfl) pa_nil))) (pa_cons (pe_callB call_isO (by rfl) T.isinstance (by decide +kernel) (pa_cons (pv 0) (pa_cons (pe_glob (v := .ref T.c_BadLetter.C) rfl T.c_BadLetter.g rfl) pa_nil))) pa_nil))))))))
  (cut (ps_set (i := 1) sc_law_kinds.nd rfl (Or.inl rfl) (pe_op op_cat (pv 1) (pe_lst (pa_cons (pe_callB call_isO (by rfl) T.isinstance (by decide +kernel) (pa_cons (pv 0) (pa_cons (pe_glob (v := .ref T.c_BadExchange.C) rfl T.c_BadExchange.g rfl) pa_nil))) (pa_cons (pe_callB call_isO (by rfl) T.isinstance (by decide +kernel) (pa_cons (pv 0) (pa_cons (pe_glob (v := .ref T.c_BadDay.C) rfl T.c_BadDay.g rfl) pa_nil))) (pa_cons (pe_callB call_isO (by rfl) T.isinstance (by decide +kernel) (pa_cons (pv 0) (pa_cons (pe_glob (v := .ref T.c_NoDayStory.C) rfl T.c_NoDayStory.g rfl) pa_nil))) (pa_cons (pe_callB call_isO (by rfl) T.isinstance (by decide +kernel) (pa_cons (pv 0) (pa_cons (pe_glob (v := .ref T.c_BadRound.C) rfl T.c_BadRound.g rfl) pa_nil))) pa_nil)))))))
  (cut (ps_set (i := 1) sc_law_kinds.nd rfl (Or.inl rfl) (pe_op op_cat (pv 1) (pe_lst (pa_cons (pe_callB call_isO (by rfl) T.isinstance (by decide +kernel) (pa_cons (pv 0) (pa_cons (pe_glob (v := .ref T.c_OtherLetters.C) rfl T.c_OtherLetters.g rfl) pa_nil))) (pa_cons (pe_callB call_isO (by rfl) T.isinstance (by decide +kernel) (pa_cons (pv 0) (pa_cons (pe_glob (v := .ref T.c_NotIn.C) rfl T.c_NotIn.g rfl) pa_nil))) (pa_cons (pe_callB call_isO (by rfl) T.isinstance (by decide +kernel) (pa_cons (pv 0) (pa_cons (pe_glob (v := .ref T.c_BadManner.C) rfl T.c_BadManner.g rfl) pa_nil))) (pa_cons (pe_callB call_isO (by rfl) T.isinstance (by decide +kernel) (pa_cons (pv 0) (pa_cons (pe_glob (v := .ref T.c_BadPool.C) rfl T.c_BadPool.g rfl) pa_nil))) (pa_cons (pe_callB call_isO (by rfl) T.isinstance (by decide +kernel) (pa_cons (pv 0) (pa_cons (pe_glob (v := .ref T.c_BadGoal.C) rfl T.c_BadGoal.g rfl) pa_nil))) pa_nil))))))))
  (cut (ps_set (i := 1) sc_law_kinds.nd rfl (Or.inl rfl) (pe_op op_cat (pv 1) (pe_lst (pa_cons (pe_callB call_isO (by rfl) T.isinstance (by decide +kernel) (pa_cons (pv 0) (pa_cons (pe_glob (v := .ref T.c_NothingLeft.C) rfl T.c_NothingLeft.g rfl) pa_nil))) (pa_cons (pe_callB call_isO (by rfl) T.isinstance (by decide +kernel) (pa_cons (pv 0) (pa_cons (pe_glob (v := .ref T.c_StillTrial.C) rfl T.c_StillTrial.g rfl) pa_nil))) pa_nil)))))
  (pss_one (ps_ret (pv 1)))))))))))))))), ?_⟩
    have k_BadBox : PySem.W.kitOne K (.ref C) (.ref T.c_BadBox.C) = some (decide (C = T.c_BadBox.C)) := kit_err mC hl T.m_BadBox T.c_BadBox.T.ox.tyC (T.m_BadBox.ne T.mLE (by decide))
    have k_BadChart : PySem.W.kitOne K (.ref C) (.ref T.c_BadChart.C) = some (decide (C = T.c_BadChart.C)) := kit_err mC hl T.m_BadChart T.c_BadChart.T.ox.tyC (T.m_BadChart.ne T.mLE (by decide))
    have k_BadText : PySem.W.kitOne K (.ref C) (.ref T.c_BadText.C) = some (decide (C = T.c_BadText.C)) := kit_err mC hl T.m_BadText T.c_BadText.T.ox.tyC (T.m_BadText.ne T.mLE (by decide))
    have k_BadCounts : PySem.W.kitOne K (.ref C) (.ref T.c_BadCounts.C) = some (decide (C = T.c_BadCounts.C)) := kit_err mC hl T.m_BadCounts T.c_BadCounts.T.ox.tyC (T.m_BadCounts.ne T.mLE (by decide))
    have k_BadSurrounding : PySem.W.kitOne K (.ref C) (.ref T.c_BadSurrounding.C) = some (decide (C = T.c_BadSurrounding.C)) := kit_err mC hl T.m_BadSurrounding T.c_BadSurrounding.T.ox.tyC (T.m_BadSurrounding.ne T.mLE (by decide))
    have k_BadTable : PySem.W.kitOne K (.ref C) (.ref T.c_BadTable.C) = some (decide (C = T.c_BadTable.C)) := kit_err mC hl T.m_BadTable T.c_BadTable.T.ox.tyC (T.m_BadTable.ne T.mLE (by decide))
    have k_BadShares : PySem.W.kitOne K (.ref C) (.ref T.c_BadShares.C) = some (decide (C = T.c_BadShares.C)) := kit_err mC hl T.m_BadShares T.c_BadShares.T.ox.tyC (T.m_BadShares.ne T.mLE (by decide))
    have k_BadWeights : PySem.W.kitOne K (.ref C) (.ref T.c_BadWeights.C) = some (decide (C = T.c_BadWeights.C)) := kit_err mC hl T.m_BadWeights T.c_BadWeights.T.ox.tyC (T.m_BadWeights.ne T.mLE (by decide))
    have k_BadChanges : PySem.W.kitOne K (.ref C) (.ref T.c_BadChanges.C) = some (decide (C = T.c_BadChanges.C)) := kit_err mC hl T.m_BadChanges T.c_BadChanges.T.ox.tyC (T.m_BadChanges.ne T.mLE (by decide))
    have k_BadHouse : PySem.W.kitOne K (.ref C) (.ref T.c_BadHouse.C) = some (decide (C = T.c_BadHouse.C)) := kit_err mC hl T.m_BadHouse T.c_BadHouse.T.ox.tyC (T.m_BadHouse.ne T.mLE (by decide))
    have k_BadFinder : PySem.W.kitOne K (.ref C) (.ref T.c_BadFinder.C) = some (decide (C = T.c_BadFinder.C)) := kit_err mC hl T.m_BadFinder T.c_BadFinder.T.ox.tyC (T.m_BadFinder.ne T.mLE (by decide))
    have k_BadGaps : PySem.W.kitOne K (.ref C) (.ref T.c_BadGaps.C) = some (decide (C = T.c_BadGaps.C)) := kit_err mC hl T.m_BadGaps T.c_BadGaps.T.ox.tyC (T.m_BadGaps.ne T.mLE (by decide))
    have k_BadLook : PySem.W.kitOne K (.ref C) (.ref T.c_BadLook.C) = some (decide (C = T.c_BadLook.C)) := kit_err mC hl T.m_BadLook T.c_BadLook.T.ox.tyC (T.m_BadLook.ne T.mLE (by decide))
    have k_BadEdits : PySem.W.kitOne K (.ref C) (.ref T.c_BadEdits.C) = some (decide (C = T.c_BadEdits.C)) := kit_err mC hl T.m_BadEdits T.c_BadEdits.T.ox.tyC (T.m_BadEdits.ne T.mLE (by decide))
    have k_BadRatio : PySem.W.kitOne K (.ref C) (.ref T.c_BadRatio.C) = some (decide (C = T.c_BadRatio.C)) := kit_err mC hl T.m_BadRatio T.c_BadRatio.T.ox.tyC (T.m_BadRatio.ne T.mLE (by decide))
    have k_NoFilling : PySem.W.kitOne K (.ref C) (.ref T.c_NoFilling.C) = some (decide (C = T.c_NoFilling.C)) := kit_err mC hl T.m_NoFilling T.c_NoFilling.T.ox.tyC (T.m_NoFilling.ne T.mLE (by decide))
    have k_NoSuchBox : PySem.W.kitOne K (.ref C) (.ref T.c_NoSuchBox.C) = some (decide (C = T.c_NoSuchBox.C)) := kit_err mC hl T.m_NoSuchBox T.c_NoSuchBox.T.ox.tyC (T.m_NoSuchBox.ne T.mLE (by decide))
    have k_NoWire : PySem.W.kitOne K (.ref C) (.ref T.c_NoWire.C) = some (decide (C = T.c_NoWire.C)) := kit_err mC hl T.m_NoWire T.c_NoWire.T.ox.tyC (T.m_NoWire.ne T.mLE (by decide))
    have k_BadIns : PySem.W.kitOne K (.ref C) (.ref T.c_BadIns.C) = some (decide (C = T.c_BadIns.C)) := kit_err mC hl T.m_BadIns T.c_BadIns.T.ox.tyC (T.m_BadIns.ne T.mLE (by decide))
    have k_BadPost : PySem.W.kitOne K (.ref C) (.ref T.c_BadPost.C) = some (decide (C = T.c_BadPost.C)) := kit_err mC hl T.m_BadPost T.c_BadPost.T.ox.tyC (T.m_BadPost.ne T.mLE (by decide))
    have k_ChanceBox : PySem.W.kitOne K (.ref C) (.ref T.c_ChanceBox.C) = some (decide (C = T.c_ChanceBox.C)) := kit_err mC hl T.m_ChanceBox T.c_ChanceBox.T.ox.tyC (T.m_ChanceBox.ne T.mLE (by decide))
    have k_BadNaming : PySem.W.kitOne K (.ref C) (.ref T.c_BadNaming.C) = some (decide (C = T.c_BadNaming.C)) := kit_err mC hl T.m_BadNaming T.c_BadNaming.T.ox.tyC (T.m_BadNaming.ne T.mLE (by decide))
    have k_BadOrder : PySem.W.kitOne K (.ref C) (.ref T.c_BadOrder.C) = some (decide (C = T.c_BadOrder.C)) := kit_err mC hl T.m_BadOrder T.c_BadOrder.T.ox.tyC (T.m_BadOrder.ne T.mLE (by decide))
    have k_BadDays : PySem.W.kitOne K (.ref C) (.ref T.c_BadDays.C) = some (decide (C = T.c_BadDays.C)) := kit_err mC hl T.m_BadDays T.c_BadDays.T.ox.tyC (T.m_BadDays.ne T.mLE (by decide))
    have k_TooMany : PySem.W.kitOne K (.ref C) (.ref T.c_TooMany.C) = some (decide (C = T.c_TooMany.C)) := kit_err mC hl T.m_TooMany T.c_TooMany.T.ox.tyC (T.m_TooMany.ne T.mLE (by decide))
    have k_NoStory : PySem.W.kitOne K (.ref C) (.ref T.c_NoStory.C) = some (decide (C = T.c_NoStory.C)) := kit_err mC hl T.m_NoStory T.c_NoStory.T.ox.tyC (T.m_NoStory.ne T.mLE (by decide))
    have k_HasStory : PySem.W.kitOne K (.ref C) (.ref T.c_HasStory.C) = some (decide (C = T.c_HasStory.C)) := kit_err mC hl T.m_HasStory T.c_HasStory.T.ox.tyC (T.m_HasStory.ne T.mLE (by decide))
    have k_NoLetter : PySem.W.kitOne K (.ref C) (.ref T.c_NoLetter.C) = some (decide (C = T.c_NoLetter.C)) := kit_err mC hl T.m_NoLetter T.c_NoLetter.T.ox.tyC (T.m_NoLetter.ne T.mLE (by decide))
    have k_OtherWires : PySem.W.kitOne K (.ref C) (.ref T.c_OtherWires.C) = some (decide (C = T.c_OtherWires.C)) := kit_err mC hl T.m_OtherWires T.c_OtherWires.T.ox.tyC (T.m_OtherWires.ne T.mLE (by decide))
    have k_NoBox : PySem.W.kitOne K (.ref C) (.ref T.c_NoBox.C) = some (decide (C = T.c_NoBox.C)) := kit_err mC hl T.m_NoBox T.c_NoBox.T.ox.tyC (T.m_NoBox.ne T.mLE (by decide))
    have k_BadLot : PySem.W.kitOne K (.ref C) (.ref T.c_BadLot.C) = some (decide (C = T.c_BadLot.C)) := kit_err mC hl T.m_BadLot T.c_BadLot.T.ox.tyC (T.m_BadLot.ne T.mLE (by decide))
    have k_NoRing : PySem.W.kitOne K (.ref C) (.ref T.c_NoRing.C) = some (decide (C = T.c_NoRing.C)) := kit_err mC hl T.m_NoRing T.c_NoRing.T.ox.tyC (T.m_NoRing.ne T.mLE (by decide))
    have k_BadTurns : PySem.W.kitOne K (.ref C) (.ref T.c_BadTurns.C) = some (decide (C = T.c_BadTurns.C)) := kit_err mC hl T.m_BadTurns T.c_BadTurns.T.ox.tyC (T.m_BadTurns.ne T.mLE (by decide))
    have k_NotStaying : PySem.W.kitOne K (.ref C) (.ref T.c_NotStaying.C) = some (decide (C = T.c_NotStaying.C)) := kit_err mC hl T.m_NotStaying T.c_NotStaying.T.ox.tyC (T.m_NotStaying.ne T.mLE (by decide))
    have k_BadOuts : PySem.W.kitOne K (.ref C) (.ref T.c_BadOuts.C) = some (decide (C = T.c_BadOuts.C)) := kit_err mC hl T.m_BadOuts T.c_BadOuts.T.ox.tyC (T.m_BadOuts.ne T.mLE (by decide))
    have k_BadShare : PySem.W.kitOne K (.ref C) (.ref T.c_BadShare.C) = some (decide (C = T.c_BadShare.C)) := kit_err mC hl T.m_BadShare T.c_BadShare.T.ox.tyC (T.m_BadShare.ne T.mLE (by decide))
    have k_BadSlip : PySem.W.kitOne K (.ref C) (.ref T.c_BadSlip.C) = some (decide (C = T.c_BadSlip.C)) := kit_err mC hl T.m_BadSlip T.c_BadSlip.T.ox.tyC (T.m_BadSlip.ne T.mLE (by decide))
    have k_BadNear : PySem.W.kitOne K (.ref C) (.ref T.c_BadNear.C) = some (decide (C = T.c_BadNear.C)) := kit_err mC hl T.m_BadNear T.c_BadNear.T.ox.tyC (T.m_BadNear.ne T.mLE (by decide))
    have k_BadTold : PySem.W.kitOne K (.ref C) (.ref T.c_BadTold.C) = some (decide (C = T.c_BadTold.C)) := kit_err mC hl T.m_BadTold T.c_BadTold.T.ox.tyC (T.m_BadTold.ne T.mLE (by decide))
    have k_BadNames : PySem.W.kitOne K (.ref C) (.ref T.c_BadNames.C) = some (decide (C = T.c_BadNames.C)) := kit_err mC hl T.m_BadNames T.c_BadNames.T.ox.tyC (T.m_BadNames.ne T.mLE (by decide))
    have k_NotKnown : PySem.W.kitOne K (.ref C) (.ref T.c_NotKnown.C) = some (decide (C = T.c_NotKnown.C)) := kit_err mC hl T.m_NotKnown T.c_NotKnown.T.ox.tyC (T.m_NotKnown.ne T.mLE (by decide))
    have k_NotMade : PySem.W.kitOne K (.ref C) (.ref T.c_NotMade.C) = some (decide (C = T.c_NotMade.C)) := kit_err mC hl T.m_NotMade T.c_NotMade.T.ox.tyC (T.m_NotMade.ne T.mLE (by decide))
    have k_NotLeft : PySem.W.kitOne K (.ref C) (.ref T.c_NotLeft.C) = some (decide (C = T.c_NotLeft.C)) := kit_err mC hl T.m_NotLeft T.c_NotLeft.T.ox.tyC (T.m_NotLeft.ne T.mLE (by decide))
    have k_NoKey : PySem.W.kitOne K (.ref C) (.ref T.c_NoKey.C) = some (decide (C = T.c_NoKey.C)) := kit_err mC hl T.m_NoKey T.c_NoKey.T.ox.tyC (T.m_NoKey.ne T.mLE (by decide))
    have k_BadCustom : PySem.W.kitOne K (.ref C) (.ref T.c_BadCustom.C) = some (decide (C = T.c_BadCustom.C)) := kit_err mC hl T.m_BadCustom T.c_BadCustom.T.ox.tyC (T.m_BadCustom.ne T.mLE (by decide))
    have k_BadWish : PySem.W.kitOne K (.ref C) (.ref T.c_BadWish.C) = some (decide (C = T.c_BadWish.C)) := kit_err mC hl T.m_BadWish T.c_BadWish.T.ox.tyC (T.m_BadWish.ne T.mLE (by decide))
    have k_NotOneBox : PySem.W.kitOne K (.ref C) (.ref T.c_NotOneBox.C) = some (decide (C = T.c_NotOneBox.C)) := kit_err mC hl T.m_NotOneBox T.c_NotOneBox.T.ox.tyC (T.m_NotOneBox.ne T.mLE (by decide))
    have k_BadHand : PySem.W.kitOne K (.ref C) (.ref T.c_BadHand.C) = some (decide (C = T.c_BadHand.C)) := kit_err mC hl T.m_BadHand T.c_BadHand.T.ox.tyC (T.m_BadHand.ne T.mLE (by decide))
    have k_BadLetter : PySem.W.kitOne K (.ref C) (.ref T.c_BadLetter.C) = some (decide (C = T.c_BadLetter.C)) := kit_err mC hl T.m_BadLetter T.c_BadLetter.T.ox.tyC (T.m_BadLetter.ne T.mLE (by decide))
    have k_BadExchange : PySem.W.kitOne K (.ref C) (.ref T.c_BadExchange.C) = some (decide (C = T.c_BadExchange.C)) := kit_err mC hl T.m_BadExchange T.c_BadExchange.T.ox.tyC (T.m_BadExchange.ne T.mLE (by decide))
    have k_BadDay : PySem.W.kitOne K (.ref C) (.ref T.c_BadDay.C) = some (decide (C = T.c_BadDay.C)) := kit_err mC hl T.m_BadDay T.c_BadDay.T.ox.tyC (T.m_BadDay.ne T.mLE (by decide))
    have k_NoDayStory : PySem.W.kitOne K (.ref C) (.ref T.c_NoDayStory.C) = some (decide (C = T.c_NoDayStory.C)) := kit_err mC hl T.m_NoDayStory T.c_NoDayStory.T.ox.tyC (T.m_NoDayStory.ne T.mLE (by decide))
    have k_BadRound : PySem.W.kitOne K (.ref C) (.ref T.c_BadRound.C) = some (decide (C = T.c_BadRound.C)) := kit_err mC hl T.m_BadRound T.c_BadRound.T.ox.tyC (T.m_BadRound.ne T.mLE (by decide))
    have k_OtherLetters : PySem.W.kitOne K (.ref C) (.ref T.c_OtherLetters.C) = some (decide (C = T.c_OtherLetters.C)) := kit_err mC hl T.m_OtherLetters T.c_OtherLetters.T.ox.tyC (T.m_OtherLetters.ne T.mLE (by decide))
    have k_NotIn : PySem.W.kitOne K (.ref C) (.ref T.c_NotIn.C) = some (decide (C = T.c_NotIn.C)) := kit_err mC hl T.m_NotIn T.c_NotIn.T.ox.tyC (T.m_NotIn.ne T.mLE (by decide))
    have k_BadManner : PySem.W.kitOne K (.ref C) (.ref T.c_BadManner.C) = some (decide (C = T.c_BadManner.C)) := kit_err mC hl T.m_BadManner T.c_BadManner.T.ox.tyC (T.m_BadManner.ne T.mLE (by decide))
    have k_BadPool : PySem.W.kitOne K (.ref C) (.ref T.c_BadPool.C) = some (decide (C = T.c_BadPool.C)) := kit_err mC hl T.m_BadPool T.c_BadPool.T.ox.tyC (T.m_BadPool.ne T.mLE (by decide))
    have k_BadGoal : PySem.W.kitOne K (.ref C) (.ref T.c_BadGoal.C) = some (decide (C = T.c_BadGoal.C)) := kit_err mC hl T.m_BadGoal T.c_BadGoal.T.ox.tyC (T.m_BadGoal.ne T.mLE (by decide))
    have k_NothingLeft : PySem.W.kitOne K (.ref C) (.ref T.c_NothingLeft.C) = some (decide (C = T.c_NothingLeft.C)) := kit_err mC hl T.m_NothingLeft T.c_NothingLeft.T.ox.tyC (T.m_NothingLeft.ne T.mLE (by decide))
    have k_StillTrial : PySem.W.kitOne K (.ref C) (.ref T.c_StillTrial.C) = some (decide (C = T.c_StillTrial.C)) := kit_err mC hl T.m_StillTrial T.c_StillTrial.T.ox.tyC (T.m_StillTrial.ne T.mLE (by decide))
    refine ⟨fun σ' H' => Same H H' ∧ ∃ p, H p = none ∧ σ' = [some (.ref a), some (.ref p)] ∧ H' p = some (.lst [.bl (decide (C = T.c_BadBox.C)), .bl (decide (C = T.c_BadChart.C)), .bl (decide (C = T.c_BadText.C)), .bl (decide (C = T.c_BadCounts.C)), .bl (decide (C = T.c_BadSurrounding.C))]), ?_, ?_⟩
    · have EE := hE
      exact ⟨_, rfl, a, C, _, _, _, rfl, EE.e, EE.T, .own _, k_BadBox, _, rfl, a, C, _, _, _, rfl, EE.e, EE.T, .own _, k_BadChart, _, rfl, a, C, _, _, _, rfl, EE.e, EE.T, .own _, k_BadText, _, rfl, a, C, _, _, _, rfl, EE.e, EE.T, .own _, k_BadCounts, _, rfl, a, C, _, _, _, rfl, EE.e, EE.T, .own _, k_BadSurrounding, (by show 5 ≤ sizeLine; decide), fun p np => ⟨same_new np, p, np, rfl, upd_same⟩⟩
    rintro σ' H0 ⟨s_0, p, np0, rfl, e0⟩
    refine ⟨fun σ' H' => Same H H' ∧ ∃ p, H p = none ∧ σ' = [some (.ref a), some (.ref p)] ∧ H' p = some (.lst [.bl (decide (C = T.c_BadBox.C)), .bl (decide (C = T.c_BadChart.C)), .bl (decide (C = T.c_BadText.C)), .bl (decide (C = T.c_BadCounts.C)), .bl (decide (C = T.c_BadSurrounding.C)), .bl (decide (C = T.c_BadTable.C)), .bl (decide (C = T.c_BadShares.C)), .bl (decide (C = T.c_BadWeights.C)), .bl (decide (C = T.c_BadChanges.C))]), ?_, ?_⟩
    · have EE := hE.same s_0
      refine ⟨_, rfl, _, rfl, a, C, _, _, _, rfl, EE.e, EE.T, .own _, k_BadTable, _, rfl, a, C, _, _, _, rfl, EE.e, EE.T, .own _, k_BadShares, _, rfl, a, C, _, _, _, rfl, EE.e, EE.T, .own _, k_BadWeights, _, rfl, a, C, _, _, _, rfl, EE.e, EE.T, .own _, k_BadChanges, (by show 4 ≤ sizeLine; decide), fun p2 np2 => ⟨p, p2, _, _, rfl, rfl, (by rw [upd_ne (ne_of_none e0 np2)]; exact e0), upd_same, (by show 5 + 4 ≤ sizeLine; decide), fun p3 np3 => ⟨fun b o z => ?_, p3, ?_, rfl, upd_same⟩⟩⟩
      · have z1 := s_0 b o z
        rw [upd_ne, upd_ne (ne_of_none z1 np2)]
        · exact z1
        · intro q; subst q; rw [upd_ne (ne_of_none z1 np2), z1] at np3; cases np3
      · cases z : H p3 with
        | none => rfl
        | some o =>
          have z1 := s_0 p3 o z
          rw [upd_ne (ne_of_none z1 np2), z1] at np3
          cases np3
    rintro σ' H1 ⟨s_0, p, np0, rfl, e0⟩
    refine ⟨fun σ' H' => Same H H' ∧ ∃ p, H p = none ∧ σ' = [some (.ref a), some (.ref p)] ∧ H' p = some (.lst [.bl (decide (C = T.c_BadBox.C)), .bl (decide (C = T.c_BadChart.C)), .bl (decide (C = T.c_BadText.C)), .bl (decide (C = T.c_BadCounts.C)), .bl (decide (C = T.c_BadSurrounding.C)), .bl (decide (C = T.c_BadTable.C)), .bl (decide (C = T.c_BadShares.C)), .bl (decide (C = T.c_BadWeights.C)), .bl (decide (C = T.c_BadChanges.C)), .bl (decide (C = T.c_BadHouse.C)), .bl (decide (C = T.c_BadFinder.C)), .bl (decide (C = T.c_BadGaps.C)), .bl (decide (C = T.c_BadLook.C)), .bl (decide (C = T.c_BadEdits.C))]), ?_, ?_⟩
    · have EE := hE.same s_0
      refine ⟨_, rfl, _, rfl, a, C, _, _, _, rfl, EE.e, EE.T, .own _, k_BadHouse, _, rfl, a, C, _, _, _, rfl, EE.e, EE.T, .own _, k_BadFinder, _, rfl, a, C, _, _, _, rfl, EE.e, EE.T, .own _, k_BadGaps, _, rfl, a, C, _, _, _, rfl, EE.e, EE.T, .own _, k_BadLook, _, rfl, a, C, _, _, _, rfl, EE.e, EE.T, .own _, k_BadEdits, (by show 5 ≤ sizeLine; decide), fun p2 np2 => ⟨p, p2, _, _, rfl, rfl, (by rw [upd_ne (ne_of_none e0 np2)]; exact e0), upd_same, (by show 9 + 5 ≤ sizeLine; decide), fun p3 np3 => ⟨fun b o z => ?_, p3, ?_, rfl, upd_same⟩⟩⟩
      · have z1 := s_0 b o z
        rw [upd_ne, upd_ne (ne_of_none z1 np2)]
        · exact z1
        · intro q; subst q; rw [upd_ne (ne_of_none z1 np2), z1] at np3; cases np3
      · cases z : H p3 with
        | none => rfl
        | some o =>
          have z1 := s_0 p3 o z
          rw [upd_ne (ne_of_none z1 np2), z1] at np3
          cases np3
    rintro σ' H2 ⟨s_0, p, np0, rfl, e0⟩
    refine ⟨fun σ' H' => Same H H' ∧ ∃ p, H p = none ∧ σ' = [some (.ref a), some (.ref p)] ∧ H' p = some (.lst [.bl (decide (C = T.c_BadBox.C)), .bl (decide (C = T.c_BadChart.C)), .bl (decide (C = T.c_BadText.C)), .bl (decide (C = T.c_BadCounts.C)), .bl (decide (C = T.c_BadSurrounding.C)), .bl (decide (C = T.c_BadTable.C)), .bl (decide (C = T.c_BadShares.C)), .bl (decide (C = T.c_BadWeights.C)), .bl (decide (C = T.c_BadChanges.C)), .bl (decide (C = T.c_BadHouse.C)), .bl (decide (C = T.c_BadFinder.C)), .bl (decide (C = T.c_BadGaps.C)), .bl (decide (C = T.c_BadLook.C)), .bl (decide (C = T.c_BadEdits.C)), .bl (decide (C = T.c_BadRatio.C)), .bl (decide (C = T.c_NoFilling.C)), .bl (decide (C = T.c_NoSuchBox.C)), .bl (decide (C = T.c_NoWire.C)), .bl (decide (C = T.c_BadIns.C))]), ?_, ?_⟩
    · have EE := hE.same s_0
      refine ⟨_, rfl, _, rfl, a, C, _, _, _, rfl, EE.e, EE.T, .own _, k_BadRatio, _, rfl, a, C, _, _, _, rfl, EE.e, EE.T, .own _, k_NoFilling, _, rfl, a, C, _, _, _, rfl, EE.e, EE.T, .own _, k_NoSuchBox, _, rfl, a, C, _, _, _, rfl, EE.e, EE.T, .own _, k_NoWire, _, rfl, a, C, _, _, _, rfl, EE.e, EE.T, .own _, k_BadIns, (by show 5 ≤ sizeLine; decide), fun p2 np2 => ⟨p, p2, _, _, rfl, rfl, (by rw [upd_ne (ne_of_none e0 np2)]; exact e0), upd_same, (by show 14 + 5 ≤ sizeLine; decide), fun p3 np3 => ⟨fun b o z => ?_, p3, ?_, rfl, upd_same⟩⟩⟩
      · have z1 := s_0 b o z
        rw [upd_ne, upd_ne (ne_of_none z1 np2)]
        · exact z1
        · intro q; subst q; rw [upd_ne (ne_of_none z1 np2), z1] at np3; cases np3
      · cases z : H p3 with
        | none => rfl
        | some o =>
          have z1 := s_0 p3 o z
          rw [upd_ne (ne_of_none z1 np2), z1] at np3
          cases np3
    rintro σ' H3 ⟨s_0, p, np0, rfl, e0⟩
    refine ⟨fun σ' H' => Same H H' ∧ ∃ p, H p = none ∧ σ' = [some (.ref a), some (.ref p)] ∧ H' p = some (.lst [.bl (decide (C = T.c_BadBox.C)), .bl (decide (C = T.c_BadChart.C)), .bl (decide (C = T.c_BadText.C)), .bl (decide (C = T.c_BadCounts.C)), .bl (decide (C = T.c_BadSurrounding.C)), .bl (decide (C = T.c_BadTable.C)), .bl (decide (C = T.c_BadShares.C)), .bl (decide (C = T.c_BadWeights.C)), .bl (decide (C = T.c_BadChanges.C)), .bl (decide (C = T.c_BadHouse.C)), .bl (decide (C = T.c_BadFinder.C)), .bl (decide (C = T.c_BadGaps.C)), .bl (decide (C = T.c_BadLook.C)), .bl (decide (C = T.c_BadEdits.C)), .bl (decide (C = T.c_BadRatio.C)), .bl (decide (C = T.c_NoFilling.C)), .bl (decide (C = T.c_NoSuchBox.C)), .bl (decide (C = T.c_NoWire.C)), .bl (decide (C = T.c_BadIns.C)), .bl (decide (C = T.c_BadPost.C)), .bl (decide (C = T.c_ChanceBox.C)), .bl (decide (C = T.c_BadNaming.C)), .bl (decide (C = T.c_BadOrder.C)), .bl (decide (C = T.c_BadDays.C))]), ?_, ?_⟩
    · have EE := hE.same s_0
      refine ⟨_, rfl, _, rfl, a, C, _, _, _, rfl, EE.e, EE.T, .own _, k_BadPost, _, rfl, a, C, _, _, _, rfl, EE.e, EE.T, .own _, k_ChanceBox, _, rfl, a, C, _, _, _, rfl, EE.e, EE.T, .own _, k_BadNaming, _, rfl, a, C, _, _, _, rfl, EE.e, EE.T, .own _, k_BadOrder, _, rfl, a, C, _, _, _, rfl, EE.e, EE.T, .own _, k_BadDays, (by show 5 ≤ sizeLine; decide), fun p2 np2 => ⟨p, p2, _, _, rfl, rfl, (by rw [upd_ne (ne_of_none e0 np2)]; exact e0), upd_same, (by show 19 + 5 ≤ sizeLine; decide), fun p3 np3 => ⟨fun b o z => ?_, p3, ?_, rfl, upd_same⟩⟩⟩
      · have z1 := s_0 b o z
        rw [upd_ne, upd_ne (ne_of_none z1 np2)]
        · exact z1
        · intro q; subst q; rw [upd_ne (ne_of_none z1 np2), z1] at np3; cases np3
      · cases z : H p3 with
        | none => rfl
        | some o =>
          have z1 := s_0 p3 o z
          rw [upd_ne (ne_of_none z1 np2), z1] at np3
          cases np3
    rintro σ' H4 ⟨s_0, p, np0, rfl, e0⟩
    refine ⟨fun σ' H' => Same H H' ∧ ∃ p, H p = none ∧ σ' = [some (.ref a), some (.ref p)] ∧ H' p = some (.lst [.bl (decide (C = T.c_BadBox.C)), .bl (decide (C = T.c_BadChart.C)), .bl (decide (C = T.c_BadText.C)), .bl (decide (C = T.c_BadCounts.C)), .bl (decide (C = T.c_BadSurrounding.C)), .bl (decide (C = T.c_BadTable.C)), .bl (decide (C = T.c_BadShares.C)), .bl (decide (C = T.c_BadWeights.C)), .bl (decide (C = T.c_BadChanges.C)), .bl (decide (C = T.c_BadHouse.C)), .bl (decide (C = T.c_BadFinder.C)), .bl (decide (C = T.c_BadGaps.C)), .bl (decide (C = T.c_BadLook.C)), .bl (decide (C = T.c_BadEdits.C)), .bl (decide (C = T.c_BadRatio.C)), .bl (decide (C = T.c_NoFilling.C)), .bl (decide (C = T.c_NoSuchBox.C)), .bl (decide (C = T.c_NoWire.C)), .bl (decide (C = T.c_BadIns.C)), .bl (decide (C = T.c_BadPost.C)), .bl (decide (C = T.c_ChanceBox.C)), .bl (decide (C = T.c_BadNaming.C)), .bl (decide (C = T.c_BadOrder.C)), .bl (decide (C = T.c_BadDays.C)), .bl (decide (C = T.c_TooMany.C)), .bl (decide (C = T.c_NoStory.C)), .bl (decide (C = T.c_HasStory.C)), .bl (decide (C = T.c_NoLetter.C)), .bl (decide (C = T.c_OtherWires.C))]), ?_, ?_⟩
    · have EE := hE.same s_0
      refine ⟨_, rfl, _, rfl, a, C, _, _, _, rfl, EE.e, EE.T, .own _, k_TooMany, _, rfl, a, C, _, _, _, rfl, EE.e, EE.T, .own _, k_NoStory, _, rfl, a, C, _, _, _, rfl, EE.e, EE.T, .own _, k_HasStory, _, rfl, a, C, _, _, _, rfl, EE.e, EE.T, .own _, k_NoLetter, _, rfl, a, C, _, _, _, rfl, EE.e, EE.T, .own _, k_OtherWires, (by show 5 ≤ sizeLine; decide), fun p2 np2 => ⟨p, p2, _, _, rfl, rfl, (by rw [upd_ne (ne_of_none e0 np2)]; exact e0), upd_same, (by show 24 + 5 ≤ sizeLine; decide), fun p3 np3 => ⟨fun b o z => ?_, p3, ?_, rfl, upd_same⟩⟩⟩
      · have z1 := s_0 b o z
        rw [upd_ne, upd_ne (ne_of_none z1 np2)]
        · exact z1
        · intro q; subst q; rw [upd_ne (ne_of_none z1 np2), z1] at np3; cases np3
      · cases z : H p3 with
        | none => rfl
        | some o =>
          have z1 := s_0 p3 o z
          rw [upd_ne (ne_of_none z1 np2), z1] at np3
          cases np3
    rintro σ' H5 ⟨s_0, p, np0, rfl, e0⟩
    refine ⟨fun σ' H' => Same H H' ∧ ∃ p, H p = none ∧ σ' = [some (.ref a), some (.ref p)] ∧ H' p = some (.lst [.bl (decide (C = T.c_BadBox.C)), .bl (decide (C = T.c_BadChart.C)), .bl (decide (C = T.c_BadText.C)), .bl (decide (C = T.c_BadCounts.C)), .bl (decide (C = T.c_BadSurrounding.C)), .bl (decide (C = T.c_BadTable.C)), .bl (decide (C = T.c_BadShares.C)), .bl (decide (C = T.c_BadWeights.C)), .bl (decide (C = T.c_BadChanges.C)), .bl (decide (C = T.c_BadHouse.C)), .bl (decide (C = T.c_BadFinder.C)), .bl (decide (C = T.c_BadGaps.C)), .bl (decide (C = T.c_BadLook.C)), .bl (decide (C = T.c_BadEdits.C)), .bl (decide (C = T.c_BadRatio.C)), .bl (decide (C = T.c_NoFilling.C)), .bl (decide (C = T.c_NoSuchBox.C)), .bl (decide (C = T.c_NoWire.C)), .bl (decide (C = T.c_BadIns.C)), .bl (decide (C = T.c_BadPost.C)), .bl (decide (C = T.c_ChanceBox.C)), .bl (decide (C = T.c_BadNaming.C)), .bl (decide (C = T.c_BadOrder.C)), .bl (decide (C = T.c_BadDays.C)), .bl (decide (C = T.c_TooMany.C)), .bl (decide (C = T.c_NoStory.C)), .bl (decide (C = T.c_HasStory.C)), .bl (decide (C = T.c_NoLetter.C)), .bl (decide (C = T.c_OtherWires.C)), .bl (decide (C = T.c_NoBox.C)), .bl (decide (C = T.c_BadLot.C)), .bl (decide (C = T.c_NoRing.C)), .bl (decide (C = T.c_BadTurns.C)), .bl (decide (C = T.c_NotStaying.C))]), ?_, ?_⟩
    · have EE := hE.same s_0
      refine ⟨_, rfl, _, rfl, a, C, _, _, _, rfl, EE.e, EE.T, .own _, k_NoBox, _, rfl, a, C, _, _, _, rfl, EE.e, EE.T, .own _, k_BadLot, _, rfl, a, C, _, _, _, rfl, EE.e, EE.T, .own _, k_NoRing, _, rfl, a, C, _, _, _, rfl, EE.e, EE.T, .own _, k_BadTurns, _, rfl, a, C, _, _, _, rfl, EE.e, EE.T, .own _, k_NotStaying, (by show 5 ≤ sizeLine; decide), fun p2 np2 => ⟨p, p2, _, _, rfl, rfl, (by rw [upd_ne (ne_of_none e0 np2)]; exact e0), upd_same, (by show 29 + 5 ≤ sizeLine; decide), fun p3 np3 => ⟨fun b o z => ?_, p3, ?_, rfl, upd_same⟩⟩⟩
      · have z1 := s_0 b o z
        rw [upd_ne, upd_ne (ne_of_none z1 np2)]
        · exact z1
        · intro q; subst q; rw [upd_ne (ne_of_none z1 np2), z1] at np3; cases np3
      · cases z : H p3 with
        | none => rfl
        | some o =>
          have z1 := s_0 p3 o z
          rw [upd_ne (ne_of_none z1 np2), z1] at np3
          cases np3
    rintro σ' H6 ⟨s_0, p, np0, rfl, e0⟩
    refine ⟨fun σ' H' => Same H H' ∧ ∃ p, H p = none ∧ σ' = [some (.ref a), some (.ref p)] ∧ H' p = some (.lst [.bl (decide (C = T.c_BadBox.C)), .bl (decide (C = T.c_BadChart.C)), .bl (decide (C = T.c_BadText.C)), .bl (decide (C = T.c_BadCounts.C)), .bl (decide (C = T.c_BadSurrounding.C)), .bl (decide (C = T.c_BadTable.C)), .bl (decide (C = T.c_BadShares.C)), .bl (decide (C = T.c_BadWeights.C)), .bl (decide (C = T.c_BadChanges.C)), .bl (decide (C = T.c_BadHouse.C)), .bl (decide (C = T.c_BadFinder.C)), .bl (decide (C = T.c_BadGaps.C)), .bl (decide (C = T.c_BadLook.C)), .bl (decide (C = T.c_BadEdits.C)), .bl (decide (C = T.c_BadRatio.C)), .bl (decide (C = T.c_NoFilling.C)), .bl (decide (C = T.c_NoSuchBox.C)), .bl (decide (C = T.c_NoWire.C)), .bl (decide (C = T.c_BadIns.C)), .bl (decide (C = T.c_BadPost.C)), .bl (decide (C = T.c_ChanceBox.C)), .bl (decide (C = T.c_BadNaming.C)), .bl (decide (C = T.c_BadOrder.C)), .bl (decide (C = T.c_BadDays.C)), .bl (decide (C = T.c_TooMany.C)), .bl (decide (C = T.c_NoStory.C)), .bl (decide (C = T.c_HasStory.C)), .bl (decide (C = T.c_NoLetter.C)), .bl (decide (C = T.c_OtherWires.C)), .bl (decide (C = T.c_NoBox.C)), .bl (decide (C = T.c_BadLot.C)), .bl (decide (C = T.c_NoRing.C)), .bl (decide (C = T.c_BadTurns.C)), .bl (decide (C = T.c_NotStaying.C)), .bl (decide (C = T.c_BadOuts.C)), .bl (decide (C = T.c_BadShare.C)), .bl (decide (C = T.c_BadSlip.C)), .bl (decide (C = T.c_BadNear.C)), .bl (decide (C = T.c_BadTold.C))]), ?_, ?_⟩
    · have EE := hE.same s_0
      refine ⟨_, rfl, _, rfl, a, C, _, _, _, rfl, EE.e, EE.T, .own _, k_BadOuts, _, rfl, a, C, _, _, _, rfl, EE.e, EE.T, .own _, k_BadShare, _, rfl, a, C, _, _, _, rfl, EE.e, EE.T, .own _, k_BadSlip, _, rfl, a, C, _, _, _, rfl, EE.e, EE.T, .own _, k_BadNear, _, rfl, a, C, _, _, _, rfl, EE.e, EE.T, .own _, k_BadTold, (by show 5 ≤ sizeLine; decide), fun p2 np2 => ⟨p, p2, _, _, rfl, rfl, (by rw [upd_ne (ne_of_none e0 np2)]; exact e0), upd_same, (by show 34 + 5 ≤ sizeLine; decide), fun p3 np3 => ⟨fun b o z => ?_, p3, ?_, rfl, upd_same⟩⟩⟩
      · have z1 := s_0 b o z
        rw [upd_ne, upd_ne (ne_of_none z1 np2)]
        · exact z1
        · intro q; subst q; rw [upd_ne (ne_of_none z1 np2), z1] at np3; cases np3
      · cases z : H p3 with
        | none => rfl
        | some o =>
          have z1 := s_0 p3 o z
          rw [upd_ne (ne_of_none z1 np2), z1] at np3
          cases np3
    rintro σ' H7 ⟨s_0, p, np0, rfl, e0⟩
    refine ⟨fun σ' H' => Same H H' ∧ ∃ p, H p = none ∧ σ' = [some (.ref a), some (.ref p)] ∧ H' p = some (.lst [.bl (decide (C = T.c_BadBox.C)), .bl (decide (C = T.c_BadChart.C)), .bl (decide (C = T.c_BadText.C)), .bl (decide (C = T.c_BadCounts.C)), .bl (decide (C = T.c_BadSurrounding.C)), .bl (decide (C = T.c_BadTable.C)), .bl (decide (C = T.c_BadShares.C)), .bl (decide (C = T.c_BadWeights.C)), .bl (decide (C = T.c_BadChanges.C)), .bl (decide (C = T.c_BadHouse.C)), .bl (decide (C = T.c_BadFinder.C)), .bl (decide (C = T.c_BadGaps.C)), .bl (decide (C = T.c_BadLook.C)), .bl (decide (C = T.c_BadEdits.C)), .bl (decide (C = T.c_BadRatio.C)), .bl (decide (C = T.c_NoFilling.C)), .bl (decide (C = T.c_NoSuchBox.C)), .bl (decide (C = T.c_NoWire.C)), .bl (decide (C = T.c_BadIns.C)), .bl (decide (C = T.c_BadPost.C)), .bl (decide (C = T.c_ChanceBox.C)), .bl (decide (C = T.c_BadNaming.C)), .bl (decide (C = T.c_BadOrder.C)), .bl (decide (C = T.c_BadDays.C)), .bl (decide (C = T.c_TooMany.C)), .bl (decide (C = T.c_NoStory.C)), .bl (decide (C = T.c_HasStory.C)), .bl (decide (C = T.c_NoLetter.C)), .bl (decide (C = T.c_OtherWires.C)), .bl (decide (C = T.c_NoBox.C)), .bl (decide (C = T.c_BadLot.C)), .bl (decide (C = T.c_NoRing.C)), .bl (decide (C = T.c_BadTurns.C)), .bl (decide (C = T.c_NotStaying.C)), .bl (decide (C = T.c_BadOuts.C)), .bl (decide (C = T.c_BadShare.C)), .bl (decide (C = T.c_BadSlip.C)), .bl (decide (C = T.c_BadNear.C)), .bl (decide (C = T.c_BadTold.C)), .bl (decide (C = T.c_BadNames.C)), .bl (decide (C = T.c_NotKnown.C)), .bl (decide (C = T.c_NotMade.C)), .bl (decide (C = T.c_NotLeft.C)), .bl (decide (C = T.c_NoKey.C))]), ?_, ?_⟩
    · have EE := hE.same s_0
      refine ⟨_, rfl, _, rfl, a, C, _, _, _, rfl, EE.e, EE.T, .own _, k_BadNames, _, rfl, a, C, _, _, _, rfl, EE.e, EE.T, .own _, k_NotKnown, _, rfl, a, C, _, _, _, rfl, EE.e, EE.T, .own _, k_NotMade, _, rfl, a, C, _, _, _, rfl, EE.e, EE.T, .own _, k_NotLeft, _, rfl, a, C, _, _, _, rfl, EE.e, EE.T, .own _, k_NoKey, (by show 5 ≤ sizeLine; decide), fun p2 np2 => ⟨p, p2, _, _, rfl, rfl, (by rw [upd_ne (ne_of_none e0 np2)]; exact e0), upd_same, (by show 39 + 5 ≤ sizeLine; decide), fun p3 np3 => ⟨fun b o z => ?_, p3, ?_, rfl, upd_same⟩⟩⟩
      · have z1 := s_0 b o z
        rw [upd_ne, upd_ne (ne_of_none z1 np2)]
        · exact z1
        · intro q; subst q; rw [upd_ne (ne_of_none z1 np2), z1] at np3; cases np3
      · cases z : H p3 with
        | none => rfl
        | some o =>
          have z1 := s_0 p3 o z
          rw [upd_ne (ne_of_none z1 np2), z1] at np3
          cases np3
    rintro σ' H8 ⟨s_0, p, np0, rfl, e0⟩
    refine ⟨fun σ' H' => Same H H' ∧ ∃ p, H p = none ∧ σ' = [some (.ref a), some (.ref p)] ∧ H' p = some (.lst [.bl (decide (C = T.c_BadBox.C)), .bl (decide (C = T.c_BadChart.C)), .bl (decide (C = T.c_BadText.C)), .bl (decide (C = T.c_BadCounts.C)), .bl (decide (C = T.c_BadSurrounding.C)), .bl (decide (C = T.c_BadTable.C)), .bl (decide (C = T.c_BadShares.C)), .bl (decide (C = T.c_BadWeights.C)), .bl (decide (C = T.c_BadChanges.C)), .bl (decide (C = T.c_BadHouse.C)), .bl (decide (C = T.c_BadFinder.C)), .bl (decide (C = T.c_BadGaps.C)), .bl (decide (C = T.c_BadLook.C)), .bl (decide (C = T.c_BadEdits.C)), .bl (decide (C = T.c_BadRatio.C)), .bl (decide (C = T.c_NoFilling.C)), .bl (decide (C = T.c_NoSuchBox.C)), .bl (decide (C = T.c_NoWire.C)), .bl (decide (C = T.c_BadIns.C)), .bl (decide (C = T.c_BadPost.C)), .bl (decide (C = T.c_ChanceBox.C)), .bl (decide (C = T.c_BadNaming.C)), .bl (decide (C = T.c_BadOrder.C)), .bl (decide (C = T.c_BadDays.C)), .bl (decide (C = T.c_TooMany.C)), .bl (decide (C = T.c_NoStory.C)), .bl (decide (C = T.c_HasStory.C)), .bl (decide (C = T.c_NoLetter.C)), .bl (decide (C = T.c_OtherWires.C)), .bl (decide (C = T.c_NoBox.C)), .bl (decide (C = T.c_BadLot.C)), .bl (decide (C = T.c_NoRing.C)), .bl (decide (C = T.c_BadTurns.C)), .bl (decide (C = T.c_NotStaying.C)), .bl (decide (C = T.c_BadOuts.C)), .bl (decide (C = T.c_BadShare.C)), .bl (decide (C = T.c_BadSlip.C)), .bl (decide (C = T.c_BadNear.C)), .bl (decide (C = T.c_BadTold.C)), .bl (decide (C = T.c_BadNames.C)), .bl (decide (C = T.c_NotKnown.C)), .bl (decide (C = T.c_NotMade.C)), .bl (decide (C = T.c_NotLeft.C)), .bl (decide (C = T.c_NoKey.C)), .bl (decide (C = T.c_BadCustom.C)), .bl (decide (C = T.c_BadWish.C)), .bl (decide (C = T.c_NotOneBox.C)), .bl (decide (C = T.c_BadHand.C)), .bl (decide (C = T.c_BadLetter.C))]), ?_, ?_⟩
    · have EE := hE.same s_0
      refine ⟨_, rfl, _, rfl, a, C, _, _, _, rfl, EE.e, EE.T, .own _, k_BadCustom, _, rfl, a, C, _, _, _, rfl, EE.e, EE.T, .own _, k_BadWish, _, rfl, a, C, _, _, _, rfl, EE.e, EE.T, .own _, k_NotOneBox, _, rfl, a, C, _, _, _, rfl, EE.e, EE.T, .own _, k_BadHand, _, rfl, a, C, _, _, _, rfl, EE.e, EE.T, .own _, k_BadLetter, (by show 5 ≤ sizeLine; decide), fun p2 np2 => ⟨p, p2, _, _, rfl, rfl, (by rw [upd_ne (ne_of_none e0 np2)]; exact e0), upd_same, (by show 44 + 5 ≤ sizeLine; decide), fun p3 np3 => ⟨fun b o z => ?_, p3, ?_, rfl, upd_same⟩⟩⟩
      · have z1 := s_0 b o z
        rw [upd_ne, upd_ne (ne_of_none z1 np2)]
        · exact z1
        · intro q; subst q; rw [upd_ne (ne_of_none z1 np2), z1] at np3; cases np3
      · cases z : H p3 with
        | none => rfl
        | some o =>
          have z1 := s_0 p3 o z
          rw [upd_ne (ne_of_none z1 np2), z1] at np3
          cases np3
    rintro σ' H9 ⟨s_0, p, np0, rfl, e0⟩
    refine ⟨fun σ' H' => Same H H' ∧ ∃ p, H p = none ∧ σ' = [some (.ref a), some (.ref p)] ∧ H' p = some (.lst [.bl (decide (C = T.c_BadBox.C)), .bl (decide (C = T.c_BadChart.C)), .bl (decide (C = T.c_BadText.C)), .bl (decide (C = T.c_BadCounts.C)), .bl (decide (C = T.c_BadSurrounding.C)), .bl (decide (C = T.c_BadTable.C)), .bl (decide (C = T.c_BadShares.C)), .bl (decide (C = T.c_BadWeights.C)), .bl (decide (C = T.c_BadChanges.C)), .bl (decide (C = T.c_BadHouse.C)), .bl (decide (C = T.c_BadFinder.C)), .bl (decide (C = T.c_BadGaps.C)), .bl (decide (C = T.c_BadLook.C)), .bl (decide (C = T.c_BadEdits.C)), .bl (decide (C = T.c_BadRatio.C)), .bl (decide (C = T.c_NoFilling.C)), .bl (decide (C = T.c_NoSuchBox.C)), .bl (decide (C = T.c_NoWire.C)), .bl (decide (C = T.c_BadIns.C)), .bl (decide (C = T.c_BadPost.C)), .bl (decide (C = T.c_ChanceBox.C)), .bl (decide (C = T.c_BadNaming.C)), .bl (decide (C = T.c_BadOrder.C)), .bl (decide (C = T.c_BadDays.C)), .bl (decide (C = T.c_TooMany.C)), .bl (decide (C = T.c_NoStory.C)), .bl (decide (C = T.c_HasStory.C)), .bl (decide (C = T.c_NoLetter.C)), .bl (decide (C = T.c_OtherWires.C)), .bl (decide (C = T.c_NoBox.C)), .bl (decide (C = T.c_BadLot.C)), .bl (decide (C = T.c_NoRing.C)), .bl (decide (C = T.c_BadTurns.C)), .bl (decide (C = T.c_NotStaying.C)), .bl (decide (C = T.c_BadOuts.C)), .bl (decide (C = T.c_BadShare.C)), .bl (decide (C = T.c_BadSlip.C)), .bl (decide (C = T.c_BadNear.C)), .bl (decide (C = T.c_BadTold.C)), .bl (decide (C = T.c_BadNames.C)), .bl (decide (C = T.c_NotKnown.C)), .bl (decide (C = T.c_NotMade.C)), .bl (decide (C = T.c_NotLeft.C)), .bl (decide (C = T.c_NoKey.C)), .bl (decide (C = T.c_BadCustom.C)), .bl (decide (C = T.c_BadWish.C)), .bl (decide (C = T.c_NotOneBox.C)), .bl (decide (C = T.c_BadHand.C)), .bl (decide (C = T.c_BadLetter.C)), .bl (decide (C = T.c_BadExchange.C)), .bl (decide (C = T.c_BadDay.C)), .bl (decide (C = T.c_NoDayStory.C)), .bl (decide (C = T.c_BadRound.C))]), ?_, ?_⟩
    · have EE := hE.same s_0
      refine ⟨_, rfl, _, rfl, a, C, _, _, _, rfl, EE.e, EE.T, .own _, k_BadExchange, _, rfl, a, C, _, _, _, rfl, EE.e, EE.T, .own _, k_BadDay, _, rfl, a, C, _, _, _, rfl, EE.e, EE.T, .own _, k_NoDayStory, _, rfl, a, C, _, _, _, rfl, EE.e, EE.T, .own _, k_BadRound, (by show 4 ≤ sizeLine; decide), fun p2 np2 => ⟨p, p2, _, _, rfl, rfl, (by rw [upd_ne (ne_of_none e0 np2)]; exact e0), upd_same, (by show 49 + 4 ≤ sizeLine; decide), fun p3 np3 => ⟨fun b o z => ?_, p3, ?_, rfl, upd_same⟩⟩⟩
      · have z1 := s_0 b o z
        rw [upd_ne, upd_ne (ne_of_none z1 np2)]
        · exact z1
        · intro q; subst q; rw [upd_ne (ne_of_none z1 np2), z1] at np3; cases np3
      · cases z : H p3 with
        | none => rfl
        | some o =>
          have z1 := s_0 p3 o z
          rw [upd_ne (ne_of_none z1 np2), z1] at np3
          cases np3
    rintro σ' H10 ⟨s_0, p, np0, rfl, e0⟩
    refine ⟨fun σ' H' => Same H H' ∧ ∃ p, H p = none ∧ σ' = [some (.ref a), some (.ref p)] ∧ H' p = some (.lst [.bl (decide (C = T.c_BadBox.C)), .bl (decide (C = T.c_BadChart.C)), .bl (decide (C = T.c_BadText.C)), .bl (decide (C = T.c_BadCounts.C)), .bl (decide (C = T.c_BadSurrounding.C)), .bl (decide (C = T.c_BadTable.C)), .bl (decide (C = T.c_BadShares.C)), .bl (decide (C = T.c_BadWeights.C)), .bl (decide (C = T.c_BadChanges.C)), .bl (decide (C = T.c_BadHouse.C)), .bl (decide (C = T.c_BadFinder.C)), .bl (decide (C = T.c_BadGaps.C)), .bl (decide (C = T.c_BadLook.C)), .bl (decide (C = T.c_BadEdits.C)), .bl (decide (C = T.c_BadRatio.C)), .bl (decide (C = T.c_NoFilling.C)), .bl (decide (C = T.c_NoSuchBox.C)), .bl (decide (C = T.c_NoWire.C)), .bl (decide (C = T.c_BadIns.C)), .bl (decide (C = T.c_BadPost.C)), .bl (decide (C = T.c_ChanceBox.C)), .bl (decide (C = T.c_BadNaming.C)), .bl (decide (C = T.c_BadOrder.C)), .bl (decide (C = T.c_BadDays.C)), .bl (decide (C = T.c_TooMany.C)), .bl (decide (C = T.c_NoStory.C)), .bl (decide (C = T.c_HasStory.C)), .bl (decide (C = T.c_NoLetter.C)), .bl (decide (C = T.c_OtherWires.C)), .bl (decide (C = T.c_NoBox.C)), .bl (decide (C = T.c_BadLot.C)), .bl (decide (C = T.c_NoRing.C)), .bl (decide (C = T.c_BadTurns.C)), .bl (decide (C = T.c_NotStaying.C)), .bl (decide (C = T.c_BadOuts.C)), .bl (decide (C = T.c_BadShare.C)), .bl (decide (C = T.c_BadSlip.C)), .bl (decide (C = T.c_BadNear.C)), .bl (decide (C = T.c_BadTold.C)), .bl (decide (C = T.c_BadNames.C)), .bl (decide (C = T.c_NotKnown.C)), .bl (decide (C = T.c_NotMade.C)), .bl (decide (C = T.c_NotLeft.C)), .bl (decide (C = T.c_NoKey.C)), .bl (decide (C = T.c_BadCustom.C)), .bl (decide (C = T.c_BadWish.C)), .bl (decide (C = T.c_NotOneBox.C)), .bl (decide (C = T.c_BadHand.C)), .bl (decide (C = T.c_BadLetter.C)), .bl (decide (C = T.c_BadExchange.C)), .bl (decide (C = T.c_BadDay.C)), .bl (decide (C = T.c_NoDayStory.C)), .bl (decide (C = T.c_BadRound.C)), .bl (decide (C = T.c_OtherLetters.C)), .bl (decide (C = T.c_NotIn.C)), .bl (decide (C = T.c_BadManner.C)), .bl (decide (C = T.c_BadPool.C)), .bl (decide (C = T.c_BadGoal.C))]), ?_, ?_⟩
    · have EE := hE.same s_0
      refine ⟨_, rfl, _, rfl, a, C, _, _, _, rfl, EE.e, EE.T, .own _, k_OtherLetters, _, rfl, a, C, _, _, _, rfl, EE.e, EE.T, .own _, k_NotIn, _, rfl, a, C, _, _, _, rfl, EE.e, EE.T, .own _, k_BadManner, _, rfl, a, C, _, _, _, rfl, EE.e, EE.T, .own _, k_BadPool, _, rfl, a, C, _, _, _, rfl, EE.e, EE.T, .own _, k_BadGoal, (by show 5 ≤ sizeLine; decide), fun p2 np2 => ⟨p, p2, _, _, rfl, rfl, (by rw [upd_ne (ne_of_none e0 np2)]; exact e0), upd_same, (by show 53 + 5 ≤ sizeLine; decide), fun p3 np3 => ⟨fun b o z => ?_, p3, ?_, rfl, upd_same⟩⟩⟩
      · have z1 := s_0 b o z
        rw [upd_ne, upd_ne (ne_of_none z1 np2)]
        · exact z1
        · intro q; subst q; rw [upd_ne (ne_of_none z1 np2), z1] at np3; cases np3
      · cases z : H p3 with
        | none => rfl
        | some o =>
          have z1 := s_0 p3 o z
          rw [upd_ne (ne_of_none z1 np2), z1] at np3
          cases np3
    rintro σ' H11 ⟨s_0, p, np0, rfl, e0⟩
    refine ⟨fun σ' H' => Same H H' ∧ ∃ p, H p = none ∧ σ' = [some (.ref a), some (.ref p)] ∧ H' p = some (.lst [.bl (decide (C = T.c_BadBox.C)), .bl (decide (C = T.c_BadChart.C)), .bl (decide (C = T.c_BadText.C)), .bl (decide (C = T.c_BadCounts.C)), .bl (decide (C = T.c_BadSurrounding.C)), .bl (decide (C = T.c_BadTable.C)), .bl (decide (C = T.c_BadShares.C)), .bl (decide (C = T.c_BadWeights.C)), .bl (decide (C = T.c_BadChanges.C)), .bl (decide (C = T.c_BadHouse.C)), .bl (decide (C = T.c_BadFinder.C)), .bl (decide (C = T.c_BadGaps.C)), .bl (decide (C = T.c_BadLook.C)), .bl (decide (C = T.c_BadEdits.C)), .bl (decide (C = T.c_BadRatio.C)), .bl (decide (C = T.c_NoFilling.C)), .bl (decide (C = T.c_NoSuchBox.C)), .bl (decide (C = T.c_NoWire.C)), .bl (decide (C = T.c_BadIns.C)), .bl (decide (C = T.c_BadPost.C)), .bl (decide (C = T.c_ChanceBox.C)), .bl (decide (C = T.c_BadNaming.C)), .bl (decide (C = T.c_BadOrder.C)), .bl (decide (C = T.c_BadDays.C)), .bl (decide (C = T.c_TooMany.C)), .bl (decide (C = T.c_NoStory.C)), .bl (decide (C = T.c_HasStory.C)), .bl (decide (C = T.c_NoLetter.C)), .bl (decide (C = T.c_OtherWires.C)), .bl (decide (C = T.c_NoBox.C)), .bl (decide (C = T.c_BadLot.C)), .bl (decide (C = T.c_NoRing.C)), .bl (decide (C = T.c_BadTurns.C)), .bl (decide (C = T.c_NotStaying.C)), .bl (decide (C = T.c_BadOuts.C)), .bl (decide (C = T.c_BadShare.C)), .bl (decide (C = T.c_BadSlip.C)), .bl (decide (C = T.c_BadNear.C)), .bl (decide (C = T.c_BadTold.C)), .bl (decide (C = T.c_BadNames.C)), .bl (decide (C = T.c_NotKnown.C)), .bl (decide (C = T.c_NotMade.C)), .bl (decide (C = T.c_NotLeft.C)), .bl (decide (C = T.c_NoKey.C)), .bl (decide (C = T.c_BadCustom.C)), .bl (decide (C = T.c_BadWish.C)), .bl (decide (C = T.c_NotOneBox.C)), .bl (decide (C = T.c_BadHand.C)), .bl (decide (C = T.c_BadLetter.C)), .bl (decide (C = T.c_BadExchange.C)), .bl (decide (C = T.c_BadDay.C)), .bl (decide (C = T.c_NoDayStory.C)), .bl (decide (C = T.c_BadRound.C)), .bl (decide (C = T.c_OtherLetters.C)), .bl (decide (C = T.c_NotIn.C)), .bl (decide (C = T.c_BadManner.C)), .bl (decide (C = T.c_BadPool.C)), .bl (decide (C = T.c_BadGoal.C)), .bl (decide (C = T.c_NothingLeft.C)), .bl (decide (C = T.c_StillTrial.C))]), ?_, ?_⟩
    · have EE := hE.same s_0
      refine ⟨_, rfl, _, rfl, a, C, _, _, _, rfl, EE.e, EE.T, .own _, k_NothingLeft, _, rfl, a, C, _, _, _, rfl, EE.e, EE.T, .own _, k_StillTrial, (by show 2 ≤ sizeLine; decide), fun p2 np2 => ⟨p, p2, _, _, rfl, rfl, (by rw [upd_ne (ne_of_none e0 np2)]; exact e0), upd_same, (by show 58 + 2 ≤ sizeLine; decide), fun p3 np3 => ⟨fun b o z => ?_, p3, ?_, rfl, upd_same⟩⟩⟩
      · have z1 := s_0 b o z
        rw [upd_ne, upd_ne (ne_of_none z1 np2)]
        · exact z1
        · intro q; subst q; rw [upd_ne (ne_of_none z1 np2), z1] at np3; cases np3
      · cases z : H p3 with
        | none => rfl
        | some o =>
          have z1 := s_0 p3 o z
          rw [upd_ne (ne_of_none z1 np2), z1] at np3
          cases np3
    rintro σ' H12 ⟨s_0, p, np0, rfl, e0⟩
    exact ⟨_, rfl, k p _ s_0 np0 e0⟩
end
end K00
set_option Elab.async false
set_option linter.all false
set_option maxRecDepth 100000
set_option maxHeartbeats 8000000
namespace K00
open PySem L2 X00
def ErAt (H : Hp) (e d C : Addr) (fs : List (Str × V)) : Prop := H e = some (exo e C (some d)) ∧ H d = some (exd d fs)
theorem ErAt.same {H H' : Hp} {e d C : Addr} {fs : List (Str × V)} (h : ErAt H e d C fs) (s : Same H H') : ErAt H' e d C fs := ⟨s _ _ h.1, s _ _ h.2⟩
theorem lk1 {f : Str} {v : V} : [(f, v)].lookup f = some v := by simp [List.lookup]
theorem lk2 {f g : Str} {v y : V} : [(g, y), (f, v)].lookup g = some y := by simp [List.lookup]
theorem lk3 {f g : Str} {v y : V} (h : ¬ f = g) : [(g, y), (f, v)].lookup f = some v := by
  have e : (f == g) = false := by simpa using h
  simp [List.lookup, e]
inductive ErrsL (K : PySem.W.Frag) (LE : Addr) (H : Hp) : List Addr → List Addr → Prop
  | nil : ErrsL K LE H [] []
  | cons {e C : Addr} {es Cs : List Addr} : Held K LE H e C → ErrsL K LE H es Cs → ErrsL K LE H (e :: es) (C :: Cs)
theorem ErrsL.same {K : PySem.W.Frag} {LE : Addr} {H H' : Hp} (s : Same H H') : ∀ {es Cs : List Addr}, ErrsL K LE H es Cs → ErrsL K LE H' es Cs
  | _, _, .nil => .nil
  | _, _, .cons a b => .cons (a.same s) (ErrsL.same s b)
theorem ErrsL.append {K : PySem.W.Frag} {LE : Addr} {H : Hp} : ∀ {es Cs fs Ds : List Addr}, ErrsL K LE H es Cs → ErrsL K LE H fs Ds → ErrsL K LE H (es ++ fs) (Cs ++ Ds)
  | _, _, _, _, .nil, b => b
  | _, _, _, _, .cons a r, b => .cons a (ErrsL.append r b)
theorem ErrsL.len {K : PySem.W.Frag} {LE : Addr} {H : Hp} : ∀ {es Cs : List Addr}, ErrsL K LE H es Cs → es.length = Cs.length
  | _, _, .nil => rfl
  | _, _, .cons _ r => congrArg Nat.succ (ErrsL.len r)
theorem ErrsL.get {K : PySem.W.Frag} {LE : Addr} {H : Hp} : ∀ {es Cs : List Addr} {i : Nat} {e : Addr}, ErrsL K LE H es Cs → es[i]? = some e → ∃ C, Cs[i]? = some C ∧ Held K LE H e C
  | _, _, 0, _, .cons a _, h => by cases h; exact ⟨_, rfl, a⟩
  | _, _, i + 1, _, .cons _ r, h => by
    obtain ⟨C, c1, c2⟩ := ErrsL.get (i := i) r (by simpa using h)
    exact ⟨C, by simpa using c1, c2⟩
  | _, _, i, _, .nil, h => by simp at h
/-- what a maker of errors hands back: the errors and what they keep -/
def spMk (K : PySem.W.Frag) (LE : Addr) (Ds : List Addr) (n : Nat) (ok : List V → Hp → V → Prop) : Sp := fun vs H Q _ => vs.length = n ∧ (∀ v ∈ vs, ∃ z, v = V.int z) ∧ ∀ (r l1 l2 : Addr) (es : List Addr) (ks : List V) (H' : Hp),
  Same H H' → H' r = some (.lst [.ref l1, .ref l2]) → H' l1 = some (.lst (es.map V.ref)) → H' l2 = some (.lst ks) → ks.length = Ds.length → (∀ k ∈ ks, ok vs H' k) → ErrsL K LE H' es Ds → Q (.ref r) H'
def okP (vs : List V) (H : Hp) (k : V) : Prop := ∃ t, k = .ref t ∧ H t = some (.tup vs)
def ok1 (vs : List V) (H : Hp) (k : V) : Prop := [k] = vs
def Tx.D_law_pairs {K : PySem.W.Frag} {mg : Str → Option Value} (T : Tx K mg) : List Addr := [T.c_BadBox.C, T.c_BadChart.C, T.c_BadText.C, T.c_BadCounts.C, T.c_BadSurrounding.C, T.c_BadTable.C, T.c_BadShares.C, T.c_BadWeights.C, T.c_BadChanges.C, T.c_BadHouse.C, T.c_BadFinder.C, T.c_BadGaps.C, T.c_BadLook.C, T.c_BadEdits.C]
def Tx.D_law_first {K : PySem.W.Frag} {mg : Str → Option Value} (T : Tx K mg) : List Addr := [T.c_BadRatio.C, T.c_NoFilling.C, T.c_NoSuchBox.C, T.c_NoWire.C, T.c_BadIns.C, T.c_BadPost.C, T.c_ChanceBox.C, T.c_BadNaming.C, T.c_BadOrder.C, T.c_BadDays.C, T.c_TooMany.C, T.c_NoStory.C, T.c_HasStory.C, T.c_NoLetter.C, T.c_OtherWires.C, T.c_NoBox.C, T.c_BadLot.C, T.c_NoRing.C, T.c_BadTurns.C, T.c_NotStaying.C, T.c_BadOuts.C, T.c_BadShare.C, T.c_BadSlip.C, T.c_BadNear.C]
def Tx.D_law_second {K : PySem.W.Frag} {mg : Str → Option Value} (T : Tx K mg) : List Addr := [T.c_BadTold.C, T.c_BadNames.C, T.c_NotKnown.C, T.c_NotMade.C, T.c_NotLeft.C, T.c_NoKey.C, T.c_BadCustom.C, T.c_BadWish.C, T.c_NotOneBox.C, T.c_BadHand.C, T.c_BadLetter.C, T.c_BadExchange.C, T.c_BadDay.C, T.c_NoDayStory.C, T.c_BadRound.C, T.c_OtherLetters.C, T.c_NotIn.C, T.c_BadManner.C, T.c_BadPool.C, T.c_BadGoal.C, T.c_NothingLeft.C, T.c_StillTrial.C]
theorem Tx.Ds_eq {K : PySem.W.Frag} {mg : Str → Option Value} (T : Tx K mg) : T.Ds = (T.D_law_pairs ++ T.D_law_first) ++ T.D_law_second := rfl
section
variable {P : Program} {w : World} {K : PySem.W.Frag} {mg : Str → Option Value} {base : Heap}
inductive M_law_pairs_0 {K : PySem.W.Frag} {mg : Str → Option Value} (T : Tx K mg) (a b : Int) (H : Hp) : L2.St → Hp → Prop
  | mk {H' : Hp} (L0 e1 d1 e2 d2 e3 d3 e4 d4 e5 d5 e6 d6 : Addr) : Same H H' → H' L0 = some (.lst [.ref e1, .ref e2, .ref e3, .ref e4, .ref e5, .ref e6]) → ErAt H' e1 d1 T.c_BadBox.C [("what", .int b), ("index", .int a)] → ErAt H' e2 d2 T.c_BadChart.C [("what", .int b), ("index", .int a)] → ErAt H' e3 d3 T.c_BadText.C [("what", .int b), ("row", .int a)] → ErAt H' e4 d4 T.c_BadCounts.C [("what", .int b), ("index", .int a)] → ErAt H' e5 d5 T.c_BadSurrounding.C [("what", .int b), ("name", .int a)] → ErAt H' e6 d6 T.c_BadTable.C [("what", .int b), ("index", .int a)] → M_law_pairs_0 T a b H [some (.int a), some (.int b), some (.ref L0), none, none] H'
theorem el_law_pairs_0 (T : Tx K mg) {a b : Int} {H : Hp} {U : L2.St → Hp → Prop} (k : ∀ (H' : Hp) (L0 e1 d1 e2 d2 e3 d3 e4 d4 e5 d5 e6 d6 : Addr), Same H H' → H' L0 = some (.lst [.ref e1, .ref e2, .ref e3, .ref e4, .ref e5, .ref e6]) → ErAt H' e1 d1 T.c_BadBox.C [("what", .int b), ("index", .int a)] → ErAt H' e2 d2 T.c_BadChart.C [("what", .int b), ("index", .int a)] → ErAt H' e3 d3 T.c_BadText.C [("what", .int b), ("row", .int a)] → ErAt H' e4 d4 T.c_BadCounts.C [("what", .int b), ("index", .int a)] → ErAt H' e5 d5 T.c_BadSurrounding.C [("what", .int b), ("name", .int a)] → ErAt H' e6 d6 T.c_BadTable.C [("what", .int b), ("index", .int a)] → U [some (.int a), some (.int b), some (.ref L0), none, none] H') : ∀ σ' H', M_law_pairs_0 T a b H σ' H' → U σ' H' := fun _ _ h => M_law_pairs_0.rec (motive := fun σ' H' _ => U σ' H') (fun {H'} => k H') h
inductive M_law_pairs_1 {K : PySem.W.Frag} {mg : Str → Option Value} (T : Tx K mg) (a b : Int) (H : Hp) : L2.St → Hp → Prop
  | mk {H' : Hp} (L0 K1 e1 d1 e2 d2 e3 d3 e4 d4 e5 d5 e6 d6 t1_0 t1_1 t1_2 t1_3 : Addr) : Same H H' → H' L0 = some (.lst [.ref e1, .ref e2, .ref e3, .ref e4, .ref e5, .ref e6]) → H' K1 = some (.lst [.ref t1_0, .ref t1_1, .ref t1_2, .ref t1_3]) → ErAt H' e1 d1 T.c_BadBox.C [("what", .int b), ("index", .int a)] → ErAt H' e2 d2 T.c_BadChart.C [("what", .int b), ("index", .int a)] → ErAt H' e3 d3 T.c_BadText.C [("what", .int b), ("row", .int a)] → ErAt H' e4 d4 T.c_BadCounts.C [("what", .int b), ("index", .int a)] → ErAt H' e5 d5 T.c_BadSurrounding.C [("what", .int b), ("name", .int a)] → ErAt H' e6 d6 T.c_BadTable.C [("what", .int b), ("index", .int a)] → H' t1_0 = some (.tup [.int a, .int b]) → H' t1_1 = some (.tup [.int a, .int b]) → H' t1_2 = some (.tup [.int a, .int b]) → H' t1_3 = some (.tup [.int a, .int b]) → M_law_pairs_1 T a b H [some (.int a), some (.int b), some (.ref L0), some (.ref K1), none] H'
theorem el_law_pairs_1 (T : Tx K mg) {a b : Int} {H : Hp} {U : L2.St → Hp → Prop} (k : ∀ (H' : Hp) (L0 K1 e1 d1 e2 d2 e3 d3 e4 d4 e5 d5 e6 d6 t1_0 t1_1 t1_2 t1_3 : Addr), Same H H' → H' L0 = some (.lst [.ref e1, .ref e2, .ref e3, .ref e4, .ref e5, .ref e6]) → H' K1 = some (.lst [.ref t1_0, .ref t1_1, .ref t1_2, .ref t1_3]) → ErAt H' e1 d1 T.c_BadBox.C [("what", .int b), ("index", .int a)] → ErAt H' e2 d2 T.c_BadChart.C [("what", .int b), ("index", .int a)] → ErAt H' e3 d3 T.c_BadText.C [("what", .int b), ("row", .int a)] → ErAt H' e4 d4 T.c_BadCounts.C [("what", .int b), ("index", .int a)] → ErAt H' e5 d5 T.c_BadSurrounding.C [("what", .int b), ("name", .int a)] → ErAt H' e6 d6 T.c_BadTable.C [("what", .int b), ("index", .int a)] → H' t1_0 = some (.tup [.int a, .int b]) → H' t1_1 = some (.tup [.int a, .int b]) → H' t1_2 = some (.tup [.int a, .int b]) → H' t1_3 = some (.tup [.int a, .int b]) → U [some (.int a), some (.int b), some (.ref L0), some (.ref K1), none] H') : ∀ σ' H', M_law_pairs_1 T a b H σ' H' → U σ' H' := fun _ _ h => M_law_pairs_1.rec (motive := fun σ' H' _ => U σ' H') (fun {H'} => k H') h
inductive M_law_pairs_2 {K : PySem.W.Frag} {mg : Str → Option Value} (T : Tx K mg) (a b : Int) (H : Hp) : L2.St → Hp → Prop
  | mk {H' : Hp} (L0 K2 e1 d1 e2 d2 e3 d3 e4 d4 e5 d5 e6 d6 t1_0 t1_1 t1_2 t1_3 t2_0 t2_1 : Addr) : Same H H' → H' L0 = some (.lst [.ref e1, .ref e2, .ref e3, .ref e4, .ref e5, .ref e6]) → H' K2 = some (.lst [.ref t1_0, .ref t1_1, .ref t1_2, .ref t1_3, .ref t2_0, .ref t2_1]) → ErAt H' e1 d1 T.c_BadBox.C [("what", .int b), ("index", .int a)] → ErAt H' e2 d2 T.c_BadChart.C [("what", .int b), ("index", .int a)] → ErAt H' e3 d3 T.c_BadText.C [("what", .int b), ("row", .int a)] → ErAt H' e4 d4 T.c_BadCounts.C [("what", .int b), ("index", .int a)] → ErAt H' e5 d5 T.c_BadSurrounding.C [("what", .int b), ("name", .int a)] → ErAt H' e6 d6 T.c_BadTable.C [("what", .int b), ("index", .int a)] → H' t1_0 = some (.tup [.int a, .int b]) → H' t1_1 = some (.tup [.int a, .int b]) → H' t1_2 = some (.tup [.int a, .int b]) → H' t1_3 = some (.tup [.int a, .int b]) → H' t2_0 = some (.tup [.int a, .int b]) → H' t2_1 = some (.tup [.int a, .int b]) → M_law_pairs_2 T a b H [some (.int a), some (.int b), some (.ref L0), some (.ref K2), none] H'
theorem el_law_pairs_2 (T : Tx K mg) {a b : Int} {H : Hp} {U : L2.St → Hp → Prop} (k : ∀ (H' : Hp) (L0 K2 e1 d1 e2 d2 e3 d3 e4 d4 e5 d5 e6 d6 t1_0 t1_1 t1_2 t1_3 t2_0 t2_1 : Addr), Same H H' → H' L0 = some (.lst [.ref e1, .ref e2, .ref e3, .ref e4, .ref e5, .ref e6]) → H' K2 = some (.lst [.ref t1_0, .ref t1_1, .ref t1_2, .ref t1_3, .ref t2_0, .ref t2_1]) → ErAt H' e1 d1 T.c_BadBox.C [("what", .int b), ("index", .int a)] → ErAt H' e2 d2 T.c_BadChart.C [("what", .int b), ("index", .int a)] → ErAt H' e3 d3 T.c_BadText.C [("what", .int b), ("row", .int a)] → ErAt H' e4 d4 T.c_BadCounts.C [("what", .int b), ("index", .int a)] → ErAt H' e5 d5 T.c_BadSurrounding.C [("what", .int b), ("name", .int a)] → ErAt H' e6 d6 T.c_BadTable.C [("what", .int b), ("index", .int a)] → H' t1_0 = some (.tup [.int a, .int b]) → H' t1_1 = some (.tup [.int a, .int b]) → H' t1_2 = some (.tup [.int a, .int b]) → H' t1_3 = some (.tup [.int a, .int b]) → H' t2_0 = some (.tup [.int a, .int b]) → H' t2_1 = some (.tup [.int a, .int b]) → U [some (.int a), some (.int b), some (.ref L0), some (.ref K2), none] H') : ∀ σ' H', M_law_pairs_2 T a b H σ' H' → U σ' H' := fun _ _ h => M_law_pairs_2.rec (motive := fun σ' H' _ => U σ' H') (fun {H'} => k H') h
inductive M_law_pairs_3 {K : PySem.W.Frag} {mg : Str → Option Value} (T : Tx K mg) (a b : Int) (H : Hp) : L2.St → Hp → Prop
  | mk {H' : Hp} (L0 K2 L3 e1 d1 e2 d2 e3 d3 e4 d4 e5 d5 e6 d6 e7 d7 e8 d8 e9 d9 e10 d10 e11 d11 e12 d12 e13 d13 e14 d14 t1_0 t1_1 t1_2 t1_3 t2_0 t2_1 : Addr) : Same H H' → H' L0 = some (.lst [.ref e1, .ref e2, .ref e3, .ref e4, .ref e5, .ref e6]) → H' K2 = some (.lst [.ref t1_0, .ref t1_1, .ref t1_2, .ref t1_3, .ref t2_0, .ref t2_1]) → H' L3 = some (.lst [.ref e7, .ref e8, .ref e9, .ref e10, .ref e11, .ref e12, .ref e13, .ref e14]) → ErAt H' e1 d1 T.c_BadBox.C [("what", .int b), ("index", .int a)] → ErAt H' e2 d2 T.c_BadChart.C [("what", .int b), ("index", .int a)] → ErAt H' e3 d3 T.c_BadText.C [("what", .int b), ("row", .int a)] → ErAt H' e4 d4 T.c_BadCounts.C [("what", .int b), ("index", .int a)] → ErAt H' e5 d5 T.c_BadSurrounding.C [("what", .int b), ("name", .int a)] → ErAt H' e6 d6 T.c_BadTable.C [("what", .int b), ("index", .int a)] → ErAt H' e7 d7 T.c_BadShares.C [("what", .int b), ("index", .int a)] → ErAt H' e8 d8 T.c_BadWeights.C [("what", .int b), ("index", .int a)] → ErAt H' e9 d9 T.c_BadChanges.C [("what", .int b), ("index", .int a)] → ErAt H' e10 d10 T.c_BadHouse.C [("what", .int b), ("index", .int a)] → ErAt H' e11 d11 T.c_BadFinder.C [("what", .int b), ("index", .int a)] → ErAt H' e12 d12 T.c_BadGaps.C [("what", .int b), ("index", .int a)] → ErAt H' e13 d13 T.c_BadLook.C [("what", .int b), ("index", .int a)] → ErAt H' e14 d14 T.c_BadEdits.C [("what", .int b), ("index", .int a)] → H' t1_0 = some (.tup [.int a, .int b]) → H' t1_1 = some (.tup [.int a, .int b]) → H' t1_2 = some (.tup [.int a, .int b]) → H' t1_3 = some (.tup [.int a, .int b]) → H' t2_0 = some (.tup [.int a, .int b]) → H' t2_1 = some (.tup [.int a, .int b]) → M_law_pairs_3 T a b H [some (.int a), some (.int b), some (.ref L0), some (.ref K2), some (.ref L3)] H'
theorem el_law_pairs_3 (T : Tx K mg) {a b : Int} {H : Hp} {U : L2.St → Hp → Prop} (k : ∀ (H' : Hp) (L0 K2 L3 e1 d1 e2 d2 e3 d3 e4 d4 e5 d5 e6 d6 e7 d7 e8 d8 e9 d9 e10 d10 e11 d11 e12 d12 e13 d13 e14 d14 t1_0 t1_1 t1_2 t1_3 t2_0 t2_1 : Addr), Same H H' → H' L0 = some (.lst [.ref e1, .ref e2, .ref e3, .ref e4, .ref e5, .ref e6]) → H' K2 = some (.lst [.ref t1_0, .ref t1_1, .ref t1_2, .ref t1_3, .ref t2_0, .ref t2_1]) → H' L3 = some (.lst [.ref e7, .ref e8, .ref e9, .ref e10, .ref e11, .ref e12, .ref e13, .ref e14]) → ErAt H' e1 d1 T.c_BadBox.C [("what", .int b), ("index", .int a)] → ErAt H' e2 d2 T.c_BadChart.C [("what", .int b), ("index", .int a)] → ErAt H' e3 d3 T.c_BadText.C [("what", .int b), ("row", .int a)] → ErAt H' e4 d4 T.c_BadCounts.C [("what", .int b), ("index", .int a)] → ErAt H' e5 d5 T.c_BadSurrounding.C [("what", .int b), ("name", .int a)] → ErAt H' e6 d6 T.c_BadTable.C [("what", .int b), ("index", .int a)] → ErAt H' e7 d7 T.c_BadShares.C [("what", .int b), ("index", .int a)] → ErAt H' e8 d8 T.c_BadWeights.C [("what", .int b), ("index", .int a)] → ErAt H' e9 d9 T.c_BadChanges.C [("what", .int b), ("index", .int a)] → ErAt H' e10 d10 T.c_BadHouse.C [("what", .int b), ("index", .int a)] → ErAt H' e11 d11 T.c_BadFinder.C [("what", .int b), ("index", .int a)] → ErAt H' e12 d12 T.c_BadGaps.C [("what", .int b), ("index", .int a)] → ErAt H' e13 d13 T.c_BadLook.C [("what", .int b), ("index", .int a)] → ErAt H' e14 d14 T.c_BadEdits.C [("what", .int b), ("index", .int a)] → H' t1_0 = some (.tup [.int a, .int b]) → H' t1_1 = some (.tup [.int a, .int b]) → H' t1_2 = some (.tup [.int a, .int b]) → H' t1_3 = some (.tup [.int a, .int b]) → H' t2_0 = some (.tup [.int a, .int b]) → H' t2_1 = some (.tup [.int a, .int b]) → U [some (.int a), some (.int b), some (.ref L0), some (.ref K2), some (.ref L3)] H') : ∀ σ' H', M_law_pairs_3 T a b H σ' H' → U σ' H' := fun _ _ h => M_law_pairs_3.rec (motive := fun σ' H' _ => U σ' H') (fun {H'} => k H') h
inductive M_law_pairs_4 {K : PySem.W.Frag} {mg : Str → Option Value} (T : Tx K mg) (a b : Int) (H : Hp) : L2.St → Hp → Prop
  | mk {H' : Hp} (L0 K4 L3 e1 d1 e2 d2 e3 d3 e4 d4 e5 d5 e6 d6 e7 d7 e8 d8 e9 d9 e10 d10 e11 d11 e12 d12 e13 d13 e14 d14 t1_0 t1_1 t1_2 t1_3 t2_0 t2_1 t4_0 t4_1 t4_2 t4_3 : Addr) : Same H H' → H' L0 = some (.lst [.ref e1, .ref e2, .ref e3, .ref e4, .ref e5, .ref e6]) → H' K4 = some (.lst [.ref t1_0, .ref t1_1, .ref t1_2, .ref t1_3, .ref t2_0, .ref t2_1, .ref t4_0, .ref t4_1, .ref t4_2, .ref t4_3]) → H' L3 = some (.lst [.ref e7, .ref e8, .ref e9, .ref e10, .ref e11, .ref e12, .ref e13, .ref e14]) → ErAt H' e1 d1 T.c_BadBox.C [("what", .int b), ("index", .int a)] → ErAt H' e2 d2 T.c_BadChart.C [("what", .int b), ("index", .int a)] → ErAt H' e3 d3 T.c_BadText.C [("what", .int b), ("row", .int a)] → ErAt H' e4 d4 T.c_BadCounts.C [("what", .int b), ("index", .int a)] → ErAt H' e5 d5 T.c_BadSurrounding.C [("what", .int b), ("name", .int a)] → ErAt H' e6 d6 T.c_BadTable.C [("what", .int b), ("index", .int a)] → ErAt H' e7 d7 T.c_BadShares.C [("what", .int b), ("index", .int a)] → ErAt H' e8 d8 T.c_BadWeights.C [("what", .int b), ("index", .int a)] → ErAt H' e9 d9 T.c_BadChanges.C [("what", .int b), ("index", .int a)] → ErAt H' e10 d10 T.c_BadHouse.C [("what", .int b), ("index", .int a)] → ErAt H' e11 d11 T.c_BadFinder.C [("what", .int b), ("index", .int a)] → ErAt H' e12 d12 T.c_BadGaps.C [("what", .int b), ("index", .int a)] → ErAt H' e13 d13 T.c_BadLook.C [("what", .int b), ("index", .int a)] → ErAt H' e14 d14 T.c_BadEdits.C [("what", .int b), ("index", .int a)] → H' t1_0 = some (.tup [.int a, .int b]) → H' t1_1 = some (.tup [.int a, .int b]) → H' t1_2 = some (.tup [.int a, .int b]) → H' t1_3 = some (.tup [.int a, .int b]) → H' t2_0 = some (.tup [.int a, .int b]) → H' t2_1 = some (.tup [.int a, .int b]) → H' t4_0 = some (.tup [.int a, .int b]) → H' t4_1 = some (.tup [.int a, .int b]) → H' t4_2 = some (.tup [.int a, .int b]) → H' t4_3 = some (.tup [.int a, .int b]) → M_law_pairs_4 T a b H [some (.int a), some (.int b), some (.ref L0), some (.ref K4), some (.ref L3)] H'
theorem el_law_pairs_4 (T : Tx K mg) {a b : Int} {H : Hp} {U : L2.St → Hp → Prop} (k : ∀ (H' : Hp) (L0 K4 L3 e1 d1 e2 d2 e3 d3 e4 d4 e5 d5 e6 d6 e7 d7 e8 d8 e9 d9 e10 d10 e11 d11 e12 d12 e13 d13 e14 d14 t1_0 t1_1 t1_2 t1_3 t2_0 t2_1 t4_0 t4_1 t4_2 t4_3 : Addr), Same H H' → H' L0 = some (.lst [.ref e1, .ref e2, .ref e3, .ref e4, .ref e5, .ref e6]) → H' K4 = some (.lst [.ref t1_0, .ref t1_1, .ref t1_2, .ref t1_3, .ref t2_0, .ref t2_1, .ref t4_0, .ref t4_1, .ref t4_2, .ref t4_3]) → H' L3 = some (.lst [.ref e7, .ref e8, .ref e9, .ref e10, .ref e11, .ref e12, .ref e13, .ref e14]) → ErAt H' e1 d1 T.c_BadBox.C [("what", .int b), ("index", .int a)] → ErAt H' e2 d2 T.c_BadChart.C [("what", .int b), ("index", .int a)] → ErAt H' e3 d3 T.c_BadText.C [("what", .int b), ("row", .int a)] → ErAt H' e4 d4 T.c_BadCounts.C [("what", .int b), ("index", .int a)] → ErAt H' e5 d5 T.c_BadSurrounding.C [("what", .int b), ("name", .int a)] → ErAt H' e6 d6 T.c_BadTable.C [("what", .int b), ("index", .int a)] → ErAt H' e7 d7 T.c_BadShares.C [("what", .int b), ("index", .int a)] → ErAt H' e8 d8 T.c_BadWeights.C [("what", .int b), ("index", .int a)] → ErAt H' e9 d9 T.c_BadChanges.C [("what", .int b), ("index", .int a)] → ErAt H' e10 d10 T.c_BadHouse.C [("what", .int b), ("index", .int a)] → ErAt H' e11 d11 T.c_BadFinder.C [("what", .int b), ("index", .int a)] → ErAt H' e12 d12 T.c_BadGaps.C [("what", .int b), ("index", .int a)] → ErAt H' e13 d13 T.c_BadLook.C [("what", .int b), ("index", .int a)] → ErAt H' e14 d14 T.c_BadEdits.C [("what", .int b), ("index", .int a)] → H' t1_0 = some (.tup [.int a, .int b]) → H' t1_1 = some (.tup [.int a, .int b]) → H' t1_2 = some (.tup [.int a, .int b]) → H' t1_3 = some (.tup [.int a, .int b]) → H' t2_0 = some (.tup [.int a, .int b]) → H' t2_1 = some (.tup [.int a, .int b]) → H' t4_0 = some (.tup [.int a, .int b]) → H' t4_1 = some (.tup [.int a, .int b]) → H' t4_2 = some (.tup [.int a, .int b]) → H' t4_3 = some (.tup [.int a, .int b]) → U [some (.int a), some (.int b), some (.ref L0), some (.ref K4), some (.ref L3)] H') : ∀ σ' H', M_law_pairs_4 T a b H σ' H' → U σ' H' := fun _ _ h => M_law_pairs_4.rec (motive := fun σ' H' _ => U σ' H') (fun {H'} => k H') h
inductive M_law_pairs_5 {K : PySem.W.Frag} {mg : Str → Option Value} (T : Tx K mg) (a b : Int) (H : Hp) : L2.St → Hp → Prop
  | mk {H' : Hp} (L0 K5 L3 e1 d1 e2 d2 e3 d3 e4 d4 e5 d5 e6 d6 e7 d7 e8 d8 e9 d9 e10 d10 e11 d11 e12 d12 e13 d13 e14 d14 t1_0 t1_1 t1_2 t1_3 t2_0 t2_1 t4_0 t4_1 t4_2 t4_3 t5_0 t5_1 t5_2 t5_3 : Addr) : Same H H' → H' L0 = some (.lst [.ref e1, .ref e2, .ref e3, .ref e4, .ref e5, .ref e6]) → H' K5 = some (.lst [.ref t1_0, .ref t1_1, .ref t1_2, .ref t1_3, .ref t2_0, .ref t2_1, .ref t4_0, .ref t4_1, .ref t4_2, .ref t4_3, .ref t5_0, .ref t5_1, .ref t5_2, .ref t5_3]) → H' L3 = some (.lst [.ref e7, .ref e8, .ref e9, .ref e10, .ref e11, .ref e12, .ref e13, .ref e14]) → ErAt H' e1 d1 T.c_BadBox.C [("what", .int b), ("index", .int a)] → ErAt H' e2 d2 T.c_BadChart.C [("what", .int b), ("index", .int a)] → ErAt H' e3 d3 T.c_BadText.C [("what", .int b), ("row", .int a)] → ErAt H' e4 d4 T.c_BadCounts.C [("what", .int b), ("index", .int a)] → ErAt H' e5 d5 T.c_BadSurrounding.C [("what", .int b), ("name", .int a)] → ErAt H' e6 d6 T.c_BadTable.C [("what", .int b), ("index", .int a)] → ErAt H' e7 d7 T.c_BadShares.C [("what", .int b), ("index", .int a)] → ErAt H' e8 d8 T.c_BadWeights.C [("what", .int b), ("index", .int a)] → ErAt H' e9 d9 T.c_BadChanges.C [("what", .int b), ("index", .int a)] → ErAt H' e10 d10 T.c_BadHouse.C [("what", .int b), ("index", .int a)] → ErAt H' e11 d11 T.c_BadFinder.C [("what", .int b), ("index", .int a)] → ErAt H' e12 d12 T.c_BadGaps.C [("what", .int b), ("index", .int a)] → ErAt H' e13 d13 T.c_BadLook.C [("what", .int b), ("index", .int a)] → ErAt H' e14 d14 T.c_BadEdits.C [("what", .int b), ("index", .int a)] → H' t1_0 = some (.tup [.int a, .int b]) → H' t1_1 = some (.tup [.int a, .int b]) → H' t1_2 = some (.tup [.int a, .int b]) → H' t1_3 = some (.tup [.int a, .int b]) → H' t2_0 = some (.tup [.int a, .int b]) → H' t2_1 = some (.tup [.int a, .int b]) → H' t4_0 = some (.tup [.int a, .int b]) → H' t4_1 = some (.tup [.int a, .int b]) → H' t4_2 = some (.tup [.int a, .int b]) → H' t4_3 = some (.tup [.int a, .int b]) → H' t5_0 = some (.tup [.int a, .int b]) → H' t5_1 = some (.tup [.int a, .int b]) → H' t5_2 = some (.tup [.int a, .int b]) → H' t5_3 = some (.tup [.int a, .int b]) → M_law_pairs_5 T a b H [some (.int a), some (.int b), some (.ref L0), some (.ref K5), some (.ref L3)] H'
theorem el_law_pairs_5 (T : Tx K mg) {a b : Int} {H : Hp} {U : L2.St → Hp → Prop} (k : ∀ (H' : Hp) (L0 K5 L3 e1 d1 e2 d2 e3 d3 e4 d4 e5 d5 e6 d6 e7 d7 e8 d8 e9 d9 e10 d10 e11 d11 e12 d12 e13 d13 e14 d14 t1_0 t1_1 t1_2 t1_3 t2_0 t2_1 t4_0 t4_1 t4_2 t4_3 t5_0 t5_1 t5_2 t5_3 : Addr), Same H H' → H' L0 = some (.lst [.ref e1, .ref e2, .ref e3, .ref e4, .ref e5, .ref e6]) → H' K5 = some (.lst [.ref t1_0, .ref t1_1, .ref t1_2, .ref t1_3, .ref t2_0, .ref t2_1, .ref t4_0, .ref t4_1, .ref t4_2, .ref t4_3, .ref t5_0, .ref t5_1, .ref t5_2, .ref t5_3]) → H' L3 = some (.lst [.ref e7, .ref e8, .ref e9, .ref e10, .ref e11, .ref e12, .ref e13, .ref e14]) → ErAt H' e1 d1 T.c_BadBox.C [("what", .int b), ("index", .int a)] → ErAt H' e2 d2 T.c_BadChart.C [("what", .int b), ("index", .int a)] → ErAt H' e3 d3 T.c_BadText.C [("what", .int b), ("row", .int a)] → ErAt H' e4 d4 T.c_BadCounts.C [("what", .int b), ("index", .int a)] → ErAt H' e5 d5 T.c_BadSurrounding.C [("what", .int b), ("name", .int a)] → ErAt H' e6 d6 T.c_BadTable.C [("what", .int b), ("index", .int a)] → ErAt H' e7 d7 T.c_BadShares.C [("what", .int b), ("index", .int a)] → ErAt H' e8 d8 T.c_BadWeights.C [("what", .int b), ("index", .int a)] → ErAt H' e9 d9 T.c_BadChanges.C [("what", .int b), ("index", .int a)] → ErAt H' e10 d10 T.c_BadHouse.C [("what", .int b), ("index", .int a)] → ErAt H' e11 d11 T.c_BadFinder.C [("what", .int b), ("index", .int a)] → ErAt H' e12 d12 T.c_BadGaps.C [("what", .int b), ("index", .int a)] → ErAt H' e13 d13 T.c_BadLook.C [("what", .int b), ("index", .int a)] → ErAt H' e14 d14 T.c_BadEdits.C [("what", .int b), ("index", .int a)] → H' t1_0 = some (.tup [.int a, .int b]) → H' t1_1 = some (.tup [.int a, .int b]) → H' t1_2 = some (.tup [.int a, .int b]) → H' t1_3 = some (.tup [.int a, .int b]) → H' t2_0 = some (.tup [.int a, .int b]) → H' t2_1 = some (.tup [.int a, .int b]) → H' t4_0 = some (.tup [.int a, .int b]) → H' t4_1 = some (.tup [.int a, .int b]) → H' t4_2 = some (.tup [.int a, .int b]) → H' t4_3 = some (.tup [.int a, .int b]) → H' t5_0 = some (.tup [.int a, .int b]) → H' t5_1 = some (.tup [.int a, .int b]) → H' t5_2 = some (.tup [.int a, .int b]) → H' t5_3 = some (.tup [.int a, .int b]) → U [some (.int a), some (.int b), some (.ref L0), some (.ref K5), some (.ref L3)] H') : ∀ σ' H', M_law_pairs_5 T a b H σ' H' → U σ' H' := fun _ _ h => M_law_pairs_5.rec (motive := fun σ' H' _ => U σ' H') (fun {H'} => k H') h
theorem ok_law_pairs (T : Tx K mg) : FnOk P w K mg base CX0 3 T.law_pairs.f T.law_pairs.fd ["_law_a", "_law_b"] (spMk K T.LE T.D_law_pairs 2 okP) := by
  refine T.law_pairs.F.ok sc_law_pairs (fun vs H Q E h => h.1) (fun cdv A outer s H vs Q E hr h => ?_)
  · obtain ⟨hl, hi, k⟩ := h
    obtain ⟨a, b, rfl⟩ : ∃ a b, vs = [V.int a, V.int b] := by
      match vs, hl with
      | [x, y], _ =>
        obtain ⟨a, rfl⟩ := hi x (by simp)
        obtain ⟨b, rfl⟩ := hi y (by simp)
        exact ⟨a, b, rfl⟩
    refine ⟨_, (cut (ps_set (i := 2) sc_law_pairs.nd rfl (Or.inl rfl) (pe_lst (pa_cons (pe_m2 T.c_BadBox (hr.mono (by decide)) (by rfl) (pv 0) (pv 1) (mono_var 0) (mono_var 1)) (pa_cons (pe_m2 T.c_BadChart (hr.mono (by decide)) (by rfl) (pv 0) (pv 1) (mono_var 0) (mono_var 1)) (pa_cons (pe_m2 T.c_BadText (hr.mono (by decide)) (by rfl) (pv 0) (pv 1) (mono_var 0) (mono_var 1)) (pa_cons (pe_m2 T.c_BadCounts (hr.mono (by decide)) (by rfl) (pv 0) (pv 1) (mono_var 0) (mono_var 1)) (pa_cons (pe_m2 T.c_BadSurrounding (hr.mono (by decide)) (by rfl) (pv 0) (pv 1) (mono_var 0) (mono_var 1)) (pa_cons (pe_m2 T.c_BadTable (hr.mono (by decide)) (by rfl) (pv 0) (pv 1) (mono_var 0) (mono_var 1)) pa_nil))))))))
  (cut (ps_set (i := 3) sc_law_pairs.nd rfl (Or.inl rfl) (pe_lst (pa_cons (pe_tup (pa_cons (pe_fldE (pe_ix ix_list (pv 2) pe_int (fun _ _ => rfl))) (pa_cons (pe_fldE (pe_ix ix_list (pv 2) pe_int (fun _ _ => rfl))) pa_nil))) (pa_cons (pe_tup (pa_cons (pe_fldE (pe_ix ix_list (pv 2) pe_int (fun _ _ => rfl))) (pa_cons (pe_fldE (pe_ix ix_list (pv 2) pe_int (fun _ _ => rfl))) pa_nil))) (pa_cons (pe_tup (pa_cons (pe_fldE (pe_ix ix_list (pv 2) pe_int (fun _ _ => rfl))) (pa_cons (pe_fldE (pe_ix ix_list (pv 2) pe_int (fun _ _ => rfl))) pa_nil))) (pa_cons (pe_tup (pa_cons (pe_fldE (pe_ix ix_list (pv 2) pe_int (fun _ _ => rfl))) (pa_cons (pe_fldE (pe_ix ix_list (pv 2) pe_int (fun _ _ => rfl))) pa_nil))) pa_nil))))))
  (cut (ps_set (i := 3) sc_law_pairs.nd rfl (Or.inl rfl) (pe_op op_cat (pv 3) (pe_lst (pa_cons (pe_tup (pa_cons (pe_fldE (pe_ix ix_list (pv 2) pe_int (fun _ _ => rfl))) (pa_cons (pe_fldE (pe_ix ix_list (pv 2) pe_int (fun _ _ => rfl))) pa_nil))) (pa_cons (pe_tup (pa_cons (pe_fldE (pe_ix ix_list (pv 2) pe_int (fun _ _ => rfl))) (pa_cons (pe_fldE (pe_ix ix_list (pv 2) pe_int (fun _ _ => rfl))) pa_nil))) pa_nil)))))
  (cut (ps_set (i := 4) sc_law_pairs.nd rfl (Or.inl rfl) (pe_lst (pa_cons (pe_m2 T.c_BadShares (hr.mono (by decide)) (by rfl) (pv 0) (pv 1) (mono_var 0) (mono_var 1)) (pa_cons (pe_m2 T.c_BadWeights (hr.mono (by decide)) (by rfl) (pv 0) (pv 1) (mono_var 0) (mono_var 1)) (pa_cons (pe_m2 T.c_BadChanges (hr.mono (by decide)) (by rfl) (pv 0) (pv 1) (mono_var 0) (mono_var 1)) (pa_cons (pe_m2 T.c_BadHouse (hr.mono (by decide)) (by rfl) (pv 0) (pv 1) (mono_var 0) (mono_var 1)) (pa_cons (pe_m2 T.c_BadFinder (hr.mono (by decide)) (by rfl) (pv 0) (pv 1) (mono_var 0) (mono_var 1)) (pa_cons (pe_m2 T.c_BadGaps (hr.mono (by decide)) (by rfl) (pv 0) (pv 1) (mono_var 0) (mono_var 1)) (pa_cons (pe_m2 T.c_BadLook (hr.mono (by decide)) (by rfl) (pv 0) (pv 1) (mono_var 0) (mono_var 1)) (pa_cons (pe_m2 T.c_BadEdits (hr.mono (by decide)) (by rfl) (pv 0) (pv 1) (mono_var 0) (mono_var 1)) pa_nil))))))))))
  (cut (ps_set (i := 3) sc_law_pairs.nd rfl (Or.inl rfl) (pe_op op_cat (pv 3) (pe_lst (pa_cons (pe_tup (pa_cons (pe_fldE (pe_ix ix_list (pv 4) pe_int (fun _ _ => rfl))) (pa_cons (pe_fldE (pe_ix ix_list (pv 4) pe_int (fun _ _ => rfl))) pa_nil))) (pa_cons (pe_tup (pa_cons (pe_fldE (pe_ix ix_list (pv 4) pe_int (fun _ _ => rfl))) (pa_cons (pe_fldE (pe_ix ix_list (pv 4) pe_int (fun _ _ => rfl))) pa_nil))) (pa_cons (pe_tup (pa_cons (pe_fldE (pe_ix ix_list (pv 4) pe_int (fun _ _ => rfl))) (pa_cons (pe_fldE (pe_ix ix_list (pv 4) pe_int (fun _ _ => rfl))) pa_nil))) (pa_cons (pe_tup (pa_cons (pe_fldE (pe_ix ix_list (pv 4) pe_int (fun _ _ => rfl))) (pa_cons (pe_fldE (pe_ix ix_list (pv 4) pe_int (fun _ _ => rfl))) pa_nil))) pa_nil)))))))
  (cut (ps_set (i := 3) sc_law_pairs.nd rfl (Or.inl rfl) (pe_op op_cat (pv 3) (pe_lst (pa_cons (pe_tup (pa_cons (pe_fldE (pe_ix ix_list (pv 4) pe_int (fun _ _ => rfl))) (pa_cons (pe_fldE (pe_ix ix_list (pv 4) pe_int (fun _ _ => rfl))) pa_nil))) (pa_cons (pe_tup (pa_cons (pe_fldE (pe_ix ix_list (pv 4) pe_int (fun _ _ => rfl))) (pa_cons (pe_fldE (pe_ix ix_list (pv 4) pe_int (fun _ _ => rfl))) pa_nil))) (pa_cons (pe_tup (pa_cons (pe_fldE (pe_ix ix_list (pv 4) pe_int (fun _ _ => rfl))) (pa_cons (pe_fldE (pe_ix ix_list (pv 4) pe_int (fun _ _ => rfl))) pa_nil))) (pa_cons (pe_tup (pa_cons (pe_fldE (pe_ix ix_list (pv 4) pe_int (fun _ _ => rfl))) (pa_cons (pe_fldE (pe_ix ix_list (pv 4) pe_int (fun _ _ => rfl))) pa_nil))) pa_nil)))))))
  (pss_one (ps_ret (pe_lst (pa_cons (pe_op op_cat (pv 2) (pv 4)) (pa_cons (pv 3) pa_nil))))))))))), ?_⟩
    refine ⟨M_law_pairs_0 T a b H, ?_, ?_⟩
    · refine ⟨_, rfl, _, rfl, fun e1 G1 m1 => ⟨_, rfl, _, rfl, fun e2 G2 m2 => ⟨_, rfl, _, rfl, fun e3 G3 m3 => ⟨_, rfl, _, rfl, fun e4 G4 m4 => ⟨_, rfl, _, rfl, fun e5 G5 m5 => ⟨_, rfl, _, rfl, fun e6 G6 m6 => ⟨(by show 6 ≤ sizeLine; decide), fun L0 nL0 => ?_⟩⟩⟩⟩⟩⟩⟩
      obtain ⟨q1, _, d1, x1, y1⟩ := m1
      obtain ⟨q2, _, d2, x2, y2⟩ := m2
      obtain ⟨q3, _, d3, x3, y3⟩ := m3
      obtain ⟨q4, _, d4, x4, y4⟩ := m4
      obtain ⟨q5, _, d5, x5, y5⟩ := m5
      obtain ⟨q6, _, d6, x6, y6⟩ := m6
      have z6 : Same G6 (upd G6 L0 (.lst [.ref e1, .ref e2, .ref e3, .ref e4, .ref e5, .ref e6])) := same_new nL0
      have z5 := q6.trans z6
      have z4 := q5.trans z5
      have z3 := q4.trans z4
      have z2 := q3.trans z3
      have z1 := q2.trans z2
      have z0 := q1.trans z1
      exact ⟨_, _, _, _, _, _, _, _, _, _, _, _, _, z0, upd_same, ⟨z1 _ _ x1, z1 _ _ y1⟩, ⟨z2 _ _ x2, z2 _ _ y2⟩, ⟨z3 _ _ x3, z3 _ _ y3⟩, ⟨z4 _ _ x4, z4 _ _ y4⟩, ⟨z5 _ _ x5, z5 _ _ y5⟩, ⟨z6 _ _ x6, z6 _ _ y6⟩⟩
    refine el_law_pairs_0 T ?_
    intro H0 L0 e1 d1 e2 d2 e3 d3 e4 d4 e5 d5 e6 d6 S l_L0 r_e1 r_e2 r_e3 r_e4 r_e5 r_e6
    refine ⟨M_law_pairs_1 T a b H, ?_, ?_⟩
    · have w0 : Same H0 H0 := Same.refl _
      refine ⟨_, rfl, L0, _, 0, _, rfl, rfl, SqL.of (w0 _ _ l_L0), atI_nat rfl, e1, _, d1, _, _, rfl, (r_e1.same w0).1, T.c_BadBox.T, T.c_BadBox.nf, (r_e1.same w0).2, lk3 (by decide), _, rfl, L0, _, 0, _, rfl, rfl, SqL.of (w0 _ _ l_L0), atI_nat rfl, e1, _, d1, _, _, rfl, (r_e1.same w0).1, T.c_BadBox.T, T.c_BadBox.nh, (r_e1.same w0).2, lk2, (by show 2 ≤ sizeLine; decide), fun t1_0 nt1_0 => ?_⟩
      have v0 := same_new (o := .tup [.int a, .int b]) nt1_0
      have w1 := w0.trans v0
      refine ⟨_, rfl, L0, _, 1, _, rfl, rfl, SqL.of (w1 _ _ l_L0), atI_nat rfl, e2, _, d2, _, _, rfl, (r_e2.same w1).1, T.c_BadChart.T, T.c_BadChart.nf, (r_e2.same w1).2, lk3 (by decide), _, rfl, L0, _, 1, _, rfl, rfl, SqL.of (w1 _ _ l_L0), atI_nat rfl, e2, _, d2, _, _, rfl, (r_e2.same w1).1, T.c_BadChart.T, T.c_BadChart.nh, (r_e2.same w1).2, lk2, (by show 2 ≤ sizeLine; decide), fun t1_1 nt1_1 => ?_⟩
      have v1 := same_new (o := .tup [.int a, .int b]) nt1_1
      have w2 := w1.trans v1
      refine ⟨_, rfl, L0, _, 2, _, rfl, rfl, SqL.of (w2 _ _ l_L0), atI_nat rfl, e3, _, d3, _, _, rfl, (r_e3.same w2).1, T.c_BadText.T, T.c_BadText.nf, (r_e3.same w2).2, lk3 (by decide), _, rfl, L0, _, 2, _, rfl, rfl, SqL.of (w2 _ _ l_L0), atI_nat rfl, e3, _, d3, _, _, rfl, (r_e3.same w2).1, T.c_BadText.T, T.c_BadText.nh, (r_e3.same w2).2, lk2, (by show 2 ≤ sizeLine; decide), fun t1_2 nt1_2 => ?_⟩
      have v2 := same_new (o := .tup [.int a, .int b]) nt1_2
      have w3 := w2.trans v2
      refine ⟨_, rfl, L0, _, 3, _, rfl, rfl, SqL.of (w3 _ _ l_L0), atI_nat rfl, e4, _, d4, _, _, rfl, (r_e4.same w3).1, T.c_BadCounts.T, T.c_BadCounts.nf, (r_e4.same w3).2, lk3 (by decide), _, rfl, L0, _, 3, _, rfl, rfl, SqL.of (w3 _ _ l_L0), atI_nat rfl, e4, _, d4, _, _, rfl, (r_e4.same w3).1, T.c_BadCounts.T, T.c_BadCounts.nh, (r_e4.same w3).2, lk2, (by show 2 ≤ sizeLine; decide), fun t1_3 nt1_3 => ?_⟩
      have v3 := same_new (o := .tup [.int a, .int b]) nt1_3
      have w4 := w3.trans v3
      refine ⟨(by show 4 ≤ sizeLine; decide), fun K1 nK1 => ?_⟩
      have v4 := same_new (o := .lst [.ref t1_0, .ref t1_1, .ref t1_2, .ref t1_3]) nK1
      have w5 := w4.trans v4
      have u4 := v4
      have u3 := v3.trans u4
      have u2 := v2.trans u3
      have u1 := v1.trans u2
      exact ⟨_, _, _, _, _, _, _, _, _, _, _, _, _, _, _, _, _, _, S.trans w5, (w5 _ _ l_L0), upd_same, (r_e1.same w5), (r_e2.same w5), (r_e3.same w5), (r_e4.same w5), (r_e5.same w5), (r_e6.same w5), u1 _ _ upd_same, u2 _ _ upd_same, u3 _ _ upd_same, u4 _ _ upd_same⟩
    refine el_law_pairs_1 T ?_
    intro H1 L0 K1 e1 d1 e2 d2 e3 d3 e4 d4 e5 d5 e6 d6 t1_0 t1_1 t1_2 t1_3 S l_L0 l_K1 r_e1 r_e2 r_e3 r_e4 r_e5 r_e6 t_t1_0 t_t1_1 t_t1_2 t_t1_3
    refine ⟨M_law_pairs_2 T a b H, ?_, ?_⟩
    · have w0 : Same H1 H1 := Same.refl _
      refine ⟨_, rfl, _, rfl, L0, _, 4, _, rfl, rfl, SqL.of (w0 _ _ l_L0), atI_nat rfl, e5, _, d5, _, _, rfl, (r_e5.same w0).1, T.c_BadSurrounding.T, T.c_BadSurrounding.nf, (r_e5.same w0).2, lk3 (by decide), _, rfl, L0, _, 4, _, rfl, rfl, SqL.of (w0 _ _ l_L0), atI_nat rfl, e5, _, d5, _, _, rfl, (r_e5.same w0).1, T.c_BadSurrounding.T, T.c_BadSurrounding.nh, (r_e5.same w0).2, lk2, (by show 2 ≤ sizeLine; decide), fun t2_0 nt2_0 => ?_⟩
      have v0 := same_new (o := .tup [.int a, .int b]) nt2_0
      have w1 := w0.trans v0
      refine ⟨_, rfl, L0, _, 5, _, rfl, rfl, SqL.of (w1 _ _ l_L0), atI_nat rfl, e6, _, d6, _, _, rfl, (r_e6.same w1).1, T.c_BadTable.T, T.c_BadTable.nf, (r_e6.same w1).2, lk3 (by decide), _, rfl, L0, _, 5, _, rfl, rfl, SqL.of (w1 _ _ l_L0), atI_nat rfl, e6, _, d6, _, _, rfl, (r_e6.same w1).1, T.c_BadTable.T, T.c_BadTable.nh, (r_e6.same w1).2, lk2, (by show 2 ≤ sizeLine; decide), fun t2_1 nt2_1 => ?_⟩
      have v1 := same_new (o := .tup [.int a, .int b]) nt2_1
      have w2 := w1.trans v1
      refine ⟨(by show 2 ≤ sizeLine; decide), fun M nM => ?_⟩
      have v2 := same_new (o := .lst [.ref t2_0, .ref t2_1]) nM
      have w3 := w2.trans v2
      refine ⟨K1, M, _, _, rfl, rfl, w3 _ _ l_K1, upd_same, (by show 4 + 2 ≤ sizeLine; decide), fun K2 nK2 => ?_⟩
      have v3 := same_new (o := .lst [.ref t1_0, .ref t1_1, .ref t1_2, .ref t1_3, .ref t2_0, .ref t2_1]) nK2
      have w4 := w3.trans v3
      have u3 := v3
      have u2 := v2.trans u3
      have u1 := v1.trans u2
      exact ⟨_, _, _, _, _, _, _, _, _, _, _, _, _, _, _, _, _, _, _, _, S.trans w4, (w4 _ _ l_L0), upd_same, (r_e1.same w4), (r_e2.same w4), (r_e3.same w4), (r_e4.same w4), (r_e5.same w4), (r_e6.same w4), (w4 _ _ t_t1_0), (w4 _ _ t_t1_1), (w4 _ _ t_t1_2), (w4 _ _ t_t1_3), u1 _ _ upd_same, u2 _ _ upd_same⟩
    refine el_law_pairs_2 T ?_
    intro H2 L0 K2 e1 d1 e2 d2 e3 d3 e4 d4 e5 d5 e6 d6 t1_0 t1_1 t1_2 t1_3 t2_0 t2_1 S l_L0 l_K2 r_e1 r_e2 r_e3 r_e4 r_e5 r_e6 t_t1_0 t_t1_1 t_t1_2 t_t1_3 t_t2_0 t_t2_1
    refine ⟨M_law_pairs_3 T a b H, ?_, ?_⟩
    · refine ⟨_, rfl, _, rfl, fun e7 G7 m7 => ⟨_, rfl, _, rfl, fun e8 G8 m8 => ⟨_, rfl, _, rfl, fun e9 G9 m9 => ⟨_, rfl, _, rfl, fun e10 G10 m10 => ⟨_, rfl, _, rfl, fun e11 G11 m11 => ⟨_, rfl, _, rfl, fun e12 G12 m12 => ⟨_, rfl, _, rfl, fun e13 G13 m13 => ⟨_, rfl, _, rfl, fun e14 G14 m14 => ⟨(by show 8 ≤ sizeLine; decide), fun L3 nL3 => ?_⟩⟩⟩⟩⟩⟩⟩⟩⟩
      obtain ⟨q7, _, d7, x7, y7⟩ := m7
      obtain ⟨q8, _, d8, x8, y8⟩ := m8
      obtain ⟨q9, _, d9, x9, y9⟩ := m9
      obtain ⟨q10, _, d10, x10, y10⟩ := m10
      obtain ⟨q11, _, d11, x11, y11⟩ := m11
      obtain ⟨q12, _, d12, x12, y12⟩ := m12
      obtain ⟨q13, _, d13, x13, y13⟩ := m13
      obtain ⟨q14, _, d14, x14, y14⟩ := m14
      have z14 : Same G14 (upd G14 L3 (.lst [.ref e7, .ref e8, .ref e9, .ref e10, .ref e11, .ref e12, .ref e13, .ref e14])) := same_new nL3
      have z13 := q14.trans z14
      have z12 := q13.trans z13
      have z11 := q12.trans z12
      have z10 := q11.trans z11
      have z9 := q10.trans z10
      have z8 := q9.trans z9
      have z7 := q8.trans z8
      have z0 := q7.trans z7
      exact ⟨_, _, _, _, _, _, _, _, _, _, _, _, _, _, _, _, _, _, _, _, _, _, _, _, _, _, _, _, _, _, _, _, _, _, _, _, _, S.trans z0, (z0 _ _ l_L0), (z0 _ _ l_K2), upd_same, (r_e1.same z0), (r_e2.same z0), (r_e3.same z0), (r_e4.same z0), (r_e5.same z0), (r_e6.same z0), ⟨z7 _ _ x7, z7 _ _ y7⟩, ⟨z8 _ _ x8, z8 _ _ y8⟩, ⟨z9 _ _ x9, z9 _ _ y9⟩, ⟨z10 _ _ x10, z10 _ _ y10⟩, ⟨z11 _ _ x11, z11 _ _ y11⟩, ⟨z12 _ _ x12, z12 _ _ y12⟩, ⟨z13 _ _ x13, z13 _ _ y13⟩, ⟨z14 _ _ x14, z14 _ _ y14⟩, (z0 _ _ t_t1_0), (z0 _ _ t_t1_1), (z0 _ _ t_t1_2), (z0 _ _ t_t1_3), (z0 _ _ t_t2_0), (z0 _ _ t_t2_1)⟩
    refine el_law_pairs_3 T ?_
    intro H3 L0 K2 L3 e1 d1 e2 d2 e3 d3 e4 d4 e5 d5 e6 d6 e7 d7 e8 d8 e9 d9 e10 d10 e11 d11 e12 d12 e13 d13 e14 d14 t1_0 t1_1 t1_2 t1_3 t2_0 t2_1 S l_L0 l_K2 l_L3 r_e1 r_e2 r_e3 r_e4 r_e5 r_e6 r_e7 r_e8 r_e9 r_e10 r_e11 r_e12 r_e13 r_e14 t_t1_0 t_t1_1 t_t1_2 t_t1_3 t_t2_0 t_t2_1
    refine ⟨M_law_pairs_4 T a b H, ?_, ?_⟩
    · have w0 : Same H3 H3 := Same.refl _
      refine ⟨_, rfl, _, rfl, L3, _, 0, _, rfl, rfl, SqL.of (w0 _ _ l_L3), atI_nat rfl, e7, _, d7, _, _, rfl, (r_e7.same w0).1, T.c_BadShares.T, T.c_BadShares.nf, (r_e7.same w0).2, lk3 (by decide), _, rfl, L3, _, 0, _, rfl, rfl, SqL.of (w0 _ _ l_L3), atI_nat rfl, e7, _, d7, _, _, rfl, (r_e7.same w0).1, T.c_BadShares.T, T.c_BadShares.nh, (r_e7.same w0).2, lk2, (by show 2 ≤ sizeLine; decide), fun t4_0 nt4_0 => ?_⟩
      have v0 := same_new (o := .tup [.int a, .int b]) nt4_0
      have w1 := w0.trans v0
      refine ⟨_, rfl, L3, _, 1, _, rfl, rfl, SqL.of (w1 _ _ l_L3), atI_nat rfl, e8, _, d8, _, _, rfl, (r_e8.same w1).1, T.c_BadWeights.T, T.c_BadWeights.nf, (r_e8.same w1).2, lk3 (by decide), _, rfl, L3, _, 1, _, rfl, rfl, SqL.of (w1 _ _ l_L3), atI_nat rfl, e8, _, d8, _, _, rfl, (r_e8.same w1).1, T.c_BadWeights.T, T.c_BadWeights.nh, (r_e8.same w1).2, lk2, (by show 2 ≤ sizeLine; decide), fun t4_1 nt4_1 => ?_⟩
      have v1 := same_new (o := .tup [.int a, .int b]) nt4_1
      have w2 := w1.trans v1
      refine ⟨_, rfl, L3, _, 2, _, rfl, rfl, SqL.of (w2 _ _ l_L3), atI_nat rfl, e9, _, d9, _, _, rfl, (r_e9.same w2).1, T.c_BadChanges.T, T.c_BadChanges.nf, (r_e9.same w2).2, lk3 (by decide), _, rfl, L3, _, 2, _, rfl, rfl, SqL.of (w2 _ _ l_L3), atI_nat rfl, e9, _, d9, _, _, rfl, (r_e9.same w2).1, T.c_BadChanges.T, T.c_BadChanges.nh, (r_e9.same w2).2, lk2, (by show 2 ≤ sizeLine; decide), fun t4_2 nt4_2 => ?_⟩
      have v2 := same_new (o := .tup [.int a, .int b]) nt4_2
      have w3 := w2.trans v2
      refine ⟨_, rfl, L3, _, 3, _, rfl, rfl, SqL.of (w3 _ _ l_L3), atI_nat rfl, e10, _, d10, _, _, rfl, (r_e10.same w3).1, T.c_BadHouse.T, T.c_BadHouse.nf, (r_e10.same w3).2, lk3 (by decide), _, rfl, L3, _, 3, _, rfl, rfl, SqL.of (w3 _ _ l_L3), atI_nat rfl, e10, _, d10, _, _, rfl, (r_e10.same w3).1, T.c_BadHouse.T, T.c_BadHouse.nh, (r_e10.same w3).2, lk2, (by show 2 ≤ sizeLine; decide), fun t4_3 nt4_3 => ?_⟩
      have v3 := same_new (o := .tup [.int a, .int b]) nt4_3
      have w4 := w3.trans v3
      refine ⟨(by show 4 ≤ sizeLine; decide), fun M nM => ?_⟩
      have v4 := same_new (o := .lst [.ref t4_0, .ref t4_1, .ref t4_2, .ref t4_3]) nM
      have w5 := w4.trans v4
      refine ⟨K2, M, _, _, rfl, rfl, w5 _ _ l_K2, upd_same, (by show 6 + 4 ≤ sizeLine; decide), fun K4 nK4 => ?_⟩
      have v5 := same_new (o := .lst [.ref t1_0, .ref t1_1, .ref t1_2, .ref t1_3, .ref t2_0, .ref t2_1, .ref t4_0, .ref t4_1, .ref t4_2, .ref t4_3]) nK4
      have w6 := w5.trans v5
      have u5 := v5
      have u4 := v4.trans u5
      have u3 := v3.trans u4
      have u2 := v2.trans u3
      have u1 := v1.trans u2
      exact ⟨_, _, _, _, _, _, _, _, _, _, _, _, _, _, _, _, _, _, _, _, _, _, _, _, _, _, _, _, _, _, _, _, _, _, _, _, _, _, _, _, _, S.trans w6, (w6 _ _ l_L0), upd_same, (w6 _ _ l_L3), (r_e1.same w6), (r_e2.same w6), (r_e3.same w6), (r_e4.same w6), (r_e5.same w6), (r_e6.same w6), (r_e7.same w6), (r_e8.same w6), (r_e9.same w6), (r_e10.same w6), (r_e11.same w6), (r_e12.same w6), (r_e13.same w6), (r_e14.same w6), (w6 _ _ t_t1_0), (w6 _ _ t_t1_1), (w6 _ _ t_t1_2), (w6 _ _ t_t1_3), (w6 _ _ t_t2_0), (w6 _ _ t_t2_1), u1 _ _ upd_same, u2 _ _ upd_same, u3 _ _ upd_same, u4 _ _ upd_same⟩
    refine el_law_pairs_4 T ?_
    intro H4 L0 K4 L3 e1 d1 e2 d2 e3 d3 e4 d4 e5 d5 e6 d6 e7 d7 e8 d8 e9 d9 e10 d10 e11 d11 e12 d12 e13 d13 e14 d14 t1_0 t1_1 t1_2 t1_3 t2_0 t2_1 t4_0 t4_1 t4_2 t4_3 S l_L0 l_K4 l_L3 r_e1 r_e2 r_e3 r_e4 r_e5 r_e6 r_e7 r_e8 r_e9 r_e10 r_e11 r_e12 r_e13 r_e14 t_t1_0 t_t1_1 t_t1_2 t_t1_3 t_t2_0 t_t2_1 t_t4_0 t_t4_1 t_t4_2 t_t4_3
    refine ⟨M_law_pairs_5 T a b H, ?_, ?_⟩
    · have w0 : Same H4 H4 := Same.refl _
      refine ⟨_, rfl, _, rfl, L3, _, 4, _, rfl, rfl, SqL.of (w0 _ _ l_L3), atI_nat rfl, e11, _, d11, _, _, rfl, (r_e11.same w0).1, T.c_BadFinder.T, T.c_BadFinder.nf, (r_e11.same w0).2, lk3 (by decide), _, rfl, L3, _, 4, _, rfl, rfl, SqL.of (w0 _ _ l_L3), atI_nat rfl, e11, _, d11, _, _, rfl, (r_e11.same w0).1, T.c_BadFinder.T, T.c_BadFinder.nh, (r_e11.same w0).2, lk2, (by show 2 ≤ sizeLine; decide), fun t5_0 nt5_0 => ?_⟩
      have v0 := same_new (o := .tup [.int a, .int b]) nt5_0
      have w1 := w0.trans v0
      refine ⟨_, rfl, L3, _, 5, _, rfl, rfl, SqL.of (w1 _ _ l_L3), atI_nat rfl, e12, _, d12, _, _, rfl, (r_e12.same w1).1, T.c_BadGaps.T, T.c_BadGaps.nf, (r_e12.same w1).2, lk3 (by decide), _, rfl, L3, _, 5, _, rfl, rfl, SqL.of (w1 _ _ l_L3), atI_nat rfl, e12, _, d12, _, _, rfl, (r_e12.same w1).1, T.c_BadGaps.T, T.c_BadGaps.nh, (r_e12.same w1).2, lk2, (by show 2 ≤ sizeLine; decide), fun t5_1 nt5_1 => ?_⟩
      have v1 := same_new (o := .tup [.int a, .int b]) nt5_1
      have w2 := w1.trans v1
      refine ⟨_, rfl, L3, _, 6, _, rfl, rfl, SqL.of (w2 _ _ l_L3), atI_nat rfl, e13, _, d13, _, _, rfl, (r_e13.same w2).1, T.c_BadLook.T, T.c_BadLook.nf, (r_e13.same w2).2, lk3 (by decide), _, rfl, L3, _, 6, _, rfl, rfl, SqL.of (w2 _ _ l_L3), atI_nat rfl, e13, _, d13, _, _, rfl, (r_e13.same w2).1, T.c_BadLook.T, T.c_BadLook.nh, (r_e13.same w2).2, lk2, (by show 2 ≤ sizeLine; decide), fun t5_2 nt5_2 => ?_⟩
      have v2 := same_new (o := .tup [.int a, .int b]) nt5_2
      have w3 := w2.trans v2
      refine ⟨_, rfl, L3, _, 7, _, rfl, rfl, SqL.of (w3 _ _ l_L3), atI_nat rfl, e14, _, d14, _, _, rfl, (r_e14.same w3).1, T.c_BadEdits.T, T.c_BadEdits.nf, (r_e14.same w3).2, lk3 (by decide), _, rfl, L3, _, 7, _, rfl, rfl, SqL.of (w3 _ _ l_L3), atI_nat rfl, e14, _, d14, _, _, rfl, (r_e14.same w3).1, T.c_BadEdits.T, T.c_BadEdits.nh, (r_e14.same w3).2, lk2, (by show 2 ≤ sizeLine; decide), fun t5_3 nt5_3 => ?_⟩
      have v3 := same_new (o := .tup [.int a, .int b]) nt5_3
      have w4 := w3.trans v3
      refine ⟨(by show 4 ≤ sizeLine; decide), fun M nM => ?_⟩
      have v4 := same_new (o := .lst [.ref t5_0, .ref t5_1, .ref t5_2, .ref t5_3]) nM
      have w5 := w4.trans v4
      refine ⟨K4, M, _, _, rfl, rfl, w5 _ _ l_K4, upd_same, (by show 10 + 4 ≤ sizeLine; decide), fun K5 nK5 => ?_⟩
      have v5 := same_new (o := .lst [.ref t1_0, .ref t1_1, .ref t1_2, .ref t1_3, .ref t2_0, .ref t2_1, .ref t4_0, .ref t4_1, .ref t4_2, .ref t4_3, .ref t5_0, .ref t5_1, .ref t5_2, .ref t5_3]) nK5
      have w6 := w5.trans v5
      have u5 := v5
      have u4 := v4.trans u5
      have u3 := v3.trans u4
      have u2 := v2.trans u3
      have u1 := v1.trans u2
      exact ⟨_, _, _, _, _, _, _, _, _, _, _, _, _, _, _, _, _, _, _, _, _, _, _, _, _, _, _, _, _, _, _, _, _, _, _, _, _, _, _, _, _, _, _, _, _, S.trans w6, (w6 _ _ l_L0), upd_same, (w6 _ _ l_L3), (r_e1.same w6), (r_e2.same w6), (r_e3.same w6), (r_e4.same w6), (r_e5.same w6), (r_e6.same w6), (r_e7.same w6), (r_e8.same w6), (r_e9.same w6), (r_e10.same w6), (r_e11.same w6), (r_e12.same w6), (r_e13.same w6), (r_e14.same w6), (w6 _ _ t_t1_0), (w6 _ _ t_t1_1), (w6 _ _ t_t1_2), (w6 _ _ t_t1_3), (w6 _ _ t_t2_0), (w6 _ _ t_t2_1), (w6 _ _ t_t4_0), (w6 _ _ t_t4_1), (w6 _ _ t_t4_2), (w6 _ _ t_t4_3), u1 _ _ upd_same, u2 _ _ upd_same, u3 _ _ upd_same, u4 _ _ upd_same⟩
    refine el_law_pairs_5 T ?_
    intro H5 L0 K5 L3 e1 d1 e2 d2 e3 d3 e4 d4 e5 d5 e6 d6 e7 d7 e8 d8 e9 d9 e10 d10 e11 d11 e12 d12 e13 d13 e14 d14 t1_0 t1_1 t1_2 t1_3 t2_0 t2_1 t4_0 t4_1 t4_2 t4_3 t5_0 t5_1 t5_2 t5_3 S l_L0 l_K5 l_L3 r_e1 r_e2 r_e3 r_e4 r_e5 r_e6 r_e7 r_e8 r_e9 r_e10 r_e11 r_e12 r_e13 r_e14 t_t1_0 t_t1_1 t_t1_2 t_t1_3 t_t2_0 t_t2_1 t_t4_0 t_t4_1 t_t4_2 t_t4_3 t_t5_0 t_t5_1 t_t5_2 t_t5_3
    have w0 : Same H5 H5 := Same.refl _
    refine ⟨_, rfl, _, rfl, L0, L3, _, _, rfl, rfl, w0 _ _ l_L0, w0 _ _ l_L3, (by show 6 + 8 ≤ sizeLine; decide), fun C0 nC0 => ?_⟩
    have v0 := same_new (o := .lst [.ref e1, .ref e2, .ref e3, .ref e4, .ref e5, .ref e6, .ref e7, .ref e8, .ref e9, .ref e10, .ref e11, .ref e12, .ref e13, .ref e14]) nC0
    have w1 := w0.trans v0
    refine ⟨_, rfl, (by show 2 ≤ sizeLine; decide), fun R nR => ?_⟩
    have v1 := same_new (o := .lst [.ref C0, .ref K5]) nR
    have w2 := w1.trans v1
    refine k R C0 K5 [e1, e2, e3, e4, e5, e6, e7, e8, e9, e10, e11, e12, e13, e14] [.ref t1_0, .ref t1_1, .ref t1_2, .ref t1_3, .ref t2_0, .ref t2_1, .ref t4_0, .ref t4_1, .ref t4_2, .ref t4_3, .ref t5_0, .ref t5_1, .ref t5_2, .ref t5_3] _ (S.trans w2) upd_same (v1 _ _ upd_same) (w2 _ _ l_K5) rfl ?_ ?_
    · intro x hx
      simp only [List.mem_cons, List.not_mem_nil, or_false] at hx
      rcases hx with rfl | rfl | rfl | rfl | rfl | rfl | rfl | rfl | rfl | rfl | rfl | rfl | rfl | rfl
      · exact ⟨_, rfl, w2 _ _ t_t1_0⟩
      · exact ⟨_, rfl, w2 _ _ t_t1_1⟩
      · exact ⟨_, rfl, w2 _ _ t_t1_2⟩
      · exact ⟨_, rfl, w2 _ _ t_t1_3⟩
      · exact ⟨_, rfl, w2 _ _ t_t2_0⟩
      · exact ⟨_, rfl, w2 _ _ t_t2_1⟩
      · exact ⟨_, rfl, w2 _ _ t_t4_0⟩
      · exact ⟨_, rfl, w2 _ _ t_t4_1⟩
      · exact ⟨_, rfl, w2 _ _ t_t4_2⟩
      · exact ⟨_, rfl, w2 _ _ t_t4_3⟩
      · exact ⟨_, rfl, w2 _ _ t_t5_0⟩
      · exact ⟨_, rfl, w2 _ _ t_t5_1⟩
      · exact ⟨_, rfl, w2 _ _ t_t5_2⟩
      · exact ⟨_, rfl, w2 _ _ t_t5_3⟩
    · exact .cons ⟨.inl ⟨d1, _, (r_e1.same w2).1, (r_e1.same w2).2⟩, T.c_BadBox.T, _, _, T.m_BadBox, .inl rfl⟩ (.cons ⟨.inl ⟨d2, _, (r_e2.same w2).1, (r_e2.same w2).2⟩, T.c_BadChart.T, _, _, T.m_BadChart, .inl rfl⟩ (.cons ⟨.inl ⟨d3, _, (r_e3.same w2).1, (r_e3.same w2).2⟩, T.c_BadText.T, _, _, T.m_BadText, .inl rfl⟩ (.cons ⟨.inl ⟨d4, _, (r_e4.same w2).1, (r_e4.same w2).2⟩, T.c_BadCounts.T, _, _, T.m_BadCounts, .inl rfl⟩ (.cons ⟨.inl ⟨d5, _, (r_e5.same w2).1, (r_e5.same w2).2⟩, T.c_BadSurrounding.T, _, _, T.m_BadSurrounding, .inl rfl⟩ (.cons ⟨.inl ⟨d6, _, (r_e6.same w2).1, (r_e6.same w2).2⟩, T.c_BadTable.T, _, _, T.m_BadTable, .inl rfl⟩ (.cons ⟨.inl ⟨d7, _, (r_e7.same w2).1, (r_e7.same w2).2⟩, T.c_BadShares.T, _, _, T.m_BadShares, .inl rfl⟩ (.cons ⟨.inl ⟨d8, _, (r_e8.same w2).1, (r_e8.same w2).2⟩, T.c_BadWeights.T, _, _, T.m_BadWeights, .inl rfl⟩ (.cons ⟨.inl ⟨d9, _, (r_e9.same w2).1, (r_e9.same w2).2⟩, T.c_BadChanges.T, _, _, T.m_BadChanges, .inl rfl⟩ (.cons ⟨.inl ⟨d10, _, (r_e10.same w2).1, (r_e10.same w2).2⟩, T.c_BadHouse.T, _, _, T.m_BadHouse, .inl rfl⟩ (.cons ⟨.inl ⟨d11, _, (r_e11.same w2).1, (r_e11.same w2).2⟩, T.c_BadFinder.T, _, _, T.m_BadFinder, .inl rfl⟩ (.cons ⟨.inl ⟨d12, _, (r_e12.same w2).1, (r_e12.same w2).2⟩, T.c_BadGaps.T, _, _, T.m_BadGaps, .inl rfl⟩ (.cons ⟨.inl ⟨d13, _, (r_e13.same w2).1, (r_e13.same w2).2⟩, T.c_BadLook.T, _, _, T.m_BadLook, .inl rfl⟩ (.cons ⟨.inl ⟨d14, _, (r_e14.same w2).1, (r_e14.same w2).2⟩, T.c_BadEdits.T, _, _, T.m_BadEdits, .inl rfl⟩ (.nil))))))))))))))
inductive M_law_first_0 {K : PySem.W.Frag} {mg : Str → Option Value} (T : Tx K mg) (a : Int) (H : Hp) : L2.St → Hp → Prop
  | mk {H' : Hp} (L0 e1 d1 e2 d2 e3 d3 e4 d4 e5 d5 e6 d6 e7 d7 e8 d8 : Addr) : Same H H' → H' L0 = some (.lst [.ref e1, .ref e2, .ref e3, .ref e4, .ref e5, .ref e6, .ref e7, .ref e8]) → ErAt H' e1 d1 T.c_BadRatio.C [("what", .int a)] → ErAt H' e2 d2 T.c_NoFilling.C [("thing", .int a)] → ErAt H' e3 d3 T.c_NoSuchBox.C [("index", .int a)] → ErAt H' e4 d4 T.c_NoWire.C [("name", .int a)] → ErAt H' e5 d5 T.c_BadIns.C [("index", .int a)] → ErAt H' e6 d6 T.c_BadPost.C [("index", .int a)] → ErAt H' e7 d7 T.c_ChanceBox.C [("index", .int a)] → ErAt H' e8 d8 T.c_BadNaming.C [("index", .int a)] → M_law_first_0 T a H [some (.int a), some (.ref L0), none, none, none] H'
theorem el_law_first_0 (T : Tx K mg) {a : Int} {H : Hp} {U : L2.St → Hp → Prop} (k : ∀ (H' : Hp) (L0 e1 d1 e2 d2 e3 d3 e4 d4 e5 d5 e6 d6 e7 d7 e8 d8 : Addr), Same H H' → H' L0 = some (.lst [.ref e1, .ref e2, .ref e3, .ref e4, .ref e5, .ref e6, .ref e7, .ref e8]) → ErAt H' e1 d1 T.c_BadRatio.C [("what", .int a)] → ErAt H' e2 d2 T.c_NoFilling.C [("thing", .int a)] → ErAt H' e3 d3 T.c_NoSuchBox.C [("index", .int a)] → ErAt H' e4 d4 T.c_NoWire.C [("name", .int a)] → ErAt H' e5 d5 T.c_BadIns.C [("index", .int a)] → ErAt H' e6 d6 T.c_BadPost.C [("index", .int a)] → ErAt H' e7 d7 T.c_ChanceBox.C [("index", .int a)] → ErAt H' e8 d8 T.c_BadNaming.C [("index", .int a)] → U [some (.int a), some (.ref L0), none, none, none] H') : ∀ σ' H', M_law_first_0 T a H σ' H' → U σ' H' := fun _ _ h => M_law_first_0.rec (motive := fun σ' H' _ => U σ' H') (fun {H'} => k H') h
inductive M_law_first_1 {K : PySem.W.Frag} {mg : Str → Option Value} (T : Tx K mg) (a : Int) (H : Hp) : L2.St → Hp → Prop
  | mk {H' : Hp} (L0 K1 e1 d1 e2 d2 e3 d3 e4 d4 e5 d5 e6 d6 e7 d7 e8 d8 : Addr) : Same H H' → H' L0 = some (.lst [.ref e1, .ref e2, .ref e3, .ref e4, .ref e5, .ref e6, .ref e7, .ref e8]) → H' K1 = some (.lst [.int a, .int a, .int a, .int a, .int a, .int a, .int a, .int a]) → ErAt H' e1 d1 T.c_BadRatio.C [("what", .int a)] → ErAt H' e2 d2 T.c_NoFilling.C [("thing", .int a)] → ErAt H' e3 d3 T.c_NoSuchBox.C [("index", .int a)] → ErAt H' e4 d4 T.c_NoWire.C [("name", .int a)] → ErAt H' e5 d5 T.c_BadIns.C [("index", .int a)] → ErAt H' e6 d6 T.c_BadPost.C [("index", .int a)] → ErAt H' e7 d7 T.c_ChanceBox.C [("index", .int a)] → ErAt H' e8 d8 T.c_BadNaming.C [("index", .int a)] → M_law_first_1 T a H [some (.int a), some (.ref L0), some (.ref K1), none, none] H'
theorem el_law_first_1 (T : Tx K mg) {a : Int} {H : Hp} {U : L2.St → Hp → Prop} (k : ∀ (H' : Hp) (L0 K1 e1 d1 e2 d2 e3 d3 e4 d4 e5 d5 e6 d6 e7 d7 e8 d8 : Addr), Same H H' → H' L0 = some (.lst [.ref e1, .ref e2, .ref e3, .ref e4, .ref e5, .ref e6, .ref e7, .ref e8]) → H' K1 = some (.lst [.int a, .int a, .int a, .int a, .int a, .int a, .int a, .int a]) → ErAt H' e1 d1 T.c_BadRatio.C [("what", .int a)] → ErAt H' e2 d2 T.c_NoFilling.C [("thing", .int a)] → ErAt H' e3 d3 T.c_NoSuchBox.C [("index", .int a)] → ErAt H' e4 d4 T.c_NoWire.C [("name", .int a)] → ErAt H' e5 d5 T.c_BadIns.C [("index", .int a)] → ErAt H' e6 d6 T.c_BadPost.C [("index", .int a)] → ErAt H' e7 d7 T.c_ChanceBox.C [("index", .int a)] → ErAt H' e8 d8 T.c_BadNaming.C [("index", .int a)] → U [some (.int a), some (.ref L0), some (.ref K1), none, none] H') : ∀ σ' H', M_law_first_1 T a H σ' H' → U σ' H' := fun _ _ h => M_law_first_1.rec (motive := fun σ' H' _ => U σ' H') (fun {H'} => k H') h
inductive M_law_first_2 {K : PySem.W.Frag} {mg : Str → Option Value} (T : Tx K mg) (a : Int) (H : Hp) : L2.St → Hp → Prop
  | mk {H' : Hp} (L0 K1 L2 e1 d1 e2 d2 e3 d3 e4 d4 e5 d5 e6 d6 e7 d7 e8 d8 e9 d9 e10 d10 e11 d11 e12 d12 e13 d13 e14 d14 e15 d15 e16 d16 : Addr) : Same H H' → H' L0 = some (.lst [.ref e1, .ref e2, .ref e3, .ref e4, .ref e5, .ref e6, .ref e7, .ref e8]) → H' K1 = some (.lst [.int a, .int a, .int a, .int a, .int a, .int a, .int a, .int a]) → H' L2 = some (.lst [.ref e9, .ref e10, .ref e11, .ref e12, .ref e13, .ref e14, .ref e15, .ref e16]) → ErAt H' e1 d1 T.c_BadRatio.C [("what", .int a)] → ErAt H' e2 d2 T.c_NoFilling.C [("thing", .int a)] → ErAt H' e3 d3 T.c_NoSuchBox.C [("index", .int a)] → ErAt H' e4 d4 T.c_NoWire.C [("name", .int a)] → ErAt H' e5 d5 T.c_BadIns.C [("index", .int a)] → ErAt H' e6 d6 T.c_BadPost.C [("index", .int a)] → ErAt H' e7 d7 T.c_ChanceBox.C [("index", .int a)] → ErAt H' e8 d8 T.c_BadNaming.C [("index", .int a)] → ErAt H' e9 d9 T.c_BadOrder.C [("order", .int a)] → ErAt H' e10 d10 T.c_BadDays.C [("days", .int a)] → ErAt H' e11 d11 T.c_TooMany.C [("most", .int a)] → ErAt H' e12 d12 T.c_NoStory.C [("thing", .int a)] → ErAt H' e13 d13 T.c_HasStory.C [("filling", .int a)] → ErAt H' e14 d14 T.c_NoLetter.C [("name", .int a)] → ErAt H' e15 d15 T.c_OtherWires.C [("what", .int a)] → ErAt H' e16 d16 T.c_NoBox.C [("what", .int a)] → M_law_first_2 T a H [some (.int a), some (.ref L0), some (.ref K1), some (.ref L2), none] H'
theorem el_law_first_2 (T : Tx K mg) {a : Int} {H : Hp} {U : L2.St → Hp → Prop} (k : ∀ (H' : Hp) (L0 K1 L2 e1 d1 e2 d2 e3 d3 e4 d4 e5 d5 e6 d6 e7 d7 e8 d8 e9 d9 e10 d10 e11 d11 e12 d12 e13 d13 e14 d14 e15 d15 e16 d16 : Addr), Same H H' → H' L0 = some (.lst [.ref e1, .ref e2, .ref e3, .ref e4, .ref e5, .ref e6, .ref e7, .ref e8]) → H' K1 = some (.lst [.int a, .int a, .int a, .int a, .int a, .int a, .int a, .int a]) → H' L2 = some (.lst [.ref e9, .ref e10, .ref e11, .ref e12, .ref e13, .ref e14, .ref e15, .ref e16]) → ErAt H' e1 d1 T.c_BadRatio.C [("what", .int a)] → ErAt H' e2 d2 T.c_NoFilling.C [("thing", .int a)] → ErAt H' e3 d3 T.c_NoSuchBox.C [("index", .int a)] → ErAt H' e4 d4 T.c_NoWire.C [("name", .int a)] → ErAt H' e5 d5 T.c_BadIns.C [("index", .int a)] → ErAt H' e6 d6 T.c_BadPost.C [("index", .int a)] → ErAt H' e7 d7 T.c_ChanceBox.C [("index", .int a)] → ErAt H' e8 d8 T.c_BadNaming.C [("index", .int a)] → ErAt H' e9 d9 T.c_BadOrder.C [("order", .int a)] → ErAt H' e10 d10 T.c_BadDays.C [("days", .int a)] → ErAt H' e11 d11 T.c_TooMany.C [("most", .int a)] → ErAt H' e12 d12 T.c_NoStory.C [("thing", .int a)] → ErAt H' e13 d13 T.c_HasStory.C [("filling", .int a)] → ErAt H' e14 d14 T.c_NoLetter.C [("name", .int a)] → ErAt H' e15 d15 T.c_OtherWires.C [("what", .int a)] → ErAt H' e16 d16 T.c_NoBox.C [("what", .int a)] → U [some (.int a), some (.ref L0), some (.ref K1), some (.ref L2), none] H') : ∀ σ' H', M_law_first_2 T a H σ' H' → U σ' H' := fun _ _ h => M_law_first_2.rec (motive := fun σ' H' _ => U σ' H') (fun {H'} => k H') h
inductive M_law_first_3 {K : PySem.W.Frag} {mg : Str → Option Value} (T : Tx K mg) (a : Int) (H : Hp) : L2.St → Hp → Prop
  | mk {H' : Hp} (L0 K3 L2 e1 d1 e2 d2 e3 d3 e4 d4 e5 d5 e6 d6 e7 d7 e8 d8 e9 d9 e10 d10 e11 d11 e12 d12 e13 d13 e14 d14 e15 d15 e16 d16 : Addr) : Same H H' → H' L0 = some (.lst [.ref e1, .ref e2, .ref e3, .ref e4, .ref e5, .ref e6, .ref e7, .ref e8]) → H' K3 = some (.lst [.int a, .int a, .int a, .int a, .int a, .int a, .int a, .int a, .int a, .int a, .int a, .int a, .int a, .int a, .int a, .int a]) → H' L2 = some (.lst [.ref e9, .ref e10, .ref e11, .ref e12, .ref e13, .ref e14, .ref e15, .ref e16]) → ErAt H' e1 d1 T.c_BadRatio.C [("what", .int a)] → ErAt H' e2 d2 T.c_NoFilling.C [("thing", .int a)] → ErAt H' e3 d3 T.c_NoSuchBox.C [("index", .int a)] → ErAt H' e4 d4 T.c_NoWire.C [("name", .int a)] → ErAt H' e5 d5 T.c_BadIns.C [("index", .int a)] → ErAt H' e6 d6 T.c_BadPost.C [("index", .int a)] → ErAt H' e7 d7 T.c_ChanceBox.C [("index", .int a)] → ErAt H' e8 d8 T.c_BadNaming.C [("index", .int a)] → ErAt H' e9 d9 T.c_BadOrder.C [("order", .int a)] → ErAt H' e10 d10 T.c_BadDays.C [("days", .int a)] → ErAt H' e11 d11 T.c_TooMany.C [("most", .int a)] → ErAt H' e12 d12 T.c_NoStory.C [("thing", .int a)] → ErAt H' e13 d13 T.c_HasStory.C [("filling", .int a)] → ErAt H' e14 d14 T.c_NoLetter.C [("name", .int a)] → ErAt H' e15 d15 T.c_OtherWires.C [("what", .int a)] → ErAt H' e16 d16 T.c_NoBox.C [("what", .int a)] → M_law_first_3 T a H [some (.int a), some (.ref L0), some (.ref K3), some (.ref L2), none] H'
theorem el_law_first_3 (T : Tx K mg) {a : Int} {H : Hp} {U : L2.St → Hp → Prop} (k : ∀ (H' : Hp) (L0 K3 L2 e1 d1 e2 d2 e3 d3 e4 d4 e5 d5 e6 d6 e7 d7 e8 d8 e9 d9 e10 d10 e11 d11 e12 d12 e13 d13 e14 d14 e15 d15 e16 d16 : Addr), Same H H' → H' L0 = some (.lst [.ref e1, .ref e2, .ref e3, .ref e4, .ref e5, .ref e6, .ref e7, .ref e8]) → H' K3 = some (.lst [.int a, .int a, .int a, .int a, .int a, .int a, .int a, .int a, .int a, .int a, .int a, .int a, .int a, .int a, .int a, .int a]) → H' L2 = some (.lst [.ref e9, .ref e10, .ref e11, .ref e12, .ref e13, .ref e14, .ref e15, .ref e16]) → ErAt H' e1 d1 T.c_BadRatio.C [("what", .int a)] → ErAt H' e2 d2 T.c_NoFilling.C [("thing", .int a)] → ErAt H' e3 d3 T.c_NoSuchBox.C [("index", .int a)] → ErAt H' e4 d4 T.c_NoWire.C [("name", .int a)] → ErAt H' e5 d5 T.c_BadIns.C [("index", .int a)] → ErAt H' e6 d6 T.c_BadPost.C [("index", .int a)] → ErAt H' e7 d7 T.c_ChanceBox.C [("index", .int a)] → ErAt H' e8 d8 T.c_BadNaming.C [("index", .int a)] → ErAt H' e9 d9 T.c_BadOrder.C [("order", .int a)] → ErAt H' e10 d10 T.c_BadDays.C [("days", .int a)] → ErAt H' e11 d11 T.c_TooMany.C [("most", .int a)] → ErAt H' e12 d12 T.c_NoStory.C [("thing", .int a)] → ErAt H' e13 d13 T.c_HasStory.C [("filling", .int a)] → ErAt H' e14 d14 T.c_NoLetter.C [("name", .int a)] → ErAt H' e15 d15 T.c_OtherWires.C [("what", .int a)] → ErAt H' e16 d16 T.c_NoBox.C [("what", .int a)] → U [some (.int a), some (.ref L0), some (.ref K3), some (.ref L2), none] H') : ∀ σ' H', M_law_first_3 T a H σ' H' → U σ' H' := fun _ _ h => M_law_first_3.rec (motive := fun σ' H' _ => U σ' H') (fun {H'} => k H') h
inductive M_law_first_4 {K : PySem.W.Frag} {mg : Str → Option Value} (T : Tx K mg) (a : Int) (H : Hp) : L2.St → Hp → Prop
  | mk {H' : Hp} (L0 K3 L2 L4 e1 d1 e2 d2 e3 d3 e4 d4 e5 d5 e6 d6 e7 d7 e8 d8 e9 d9 e10 d10 e11 d11 e12 d12 e13 d13 e14 d14 e15 d15 e16 d16 e17 d17 e18 d18 e19 d19 e20 d20 e21 d21 e22 d22 e23 d23 e24 d24 : Addr) : Same H H' → H' L0 = some (.lst [.ref e1, .ref e2, .ref e3, .ref e4, .ref e5, .ref e6, .ref e7, .ref e8]) → H' K3 = some (.lst [.int a, .int a, .int a, .int a, .int a, .int a, .int a, .int a, .int a, .int a, .int a, .int a, .int a, .int a, .int a, .int a]) → H' L2 = some (.lst [.ref e9, .ref e10, .ref e11, .ref e12, .ref e13, .ref e14, .ref e15, .ref e16]) → H' L4 = some (.lst [.ref e17, .ref e18, .ref e19, .ref e20, .ref e21, .ref e22, .ref e23, .ref e24]) → ErAt H' e1 d1 T.c_BadRatio.C [("what", .int a)] → ErAt H' e2 d2 T.c_NoFilling.C [("thing", .int a)] → ErAt H' e3 d3 T.c_NoSuchBox.C [("index", .int a)] → ErAt H' e4 d4 T.c_NoWire.C [("name", .int a)] → ErAt H' e5 d5 T.c_BadIns.C [("index", .int a)] → ErAt H' e6 d6 T.c_BadPost.C [("index", .int a)] → ErAt H' e7 d7 T.c_ChanceBox.C [("index", .int a)] → ErAt H' e8 d8 T.c_BadNaming.C [("index", .int a)] → ErAt H' e9 d9 T.c_BadOrder.C [("order", .int a)] → ErAt H' e10 d10 T.c_BadDays.C [("days", .int a)] → ErAt H' e11 d11 T.c_TooMany.C [("most", .int a)] → ErAt H' e12 d12 T.c_NoStory.C [("thing", .int a)] → ErAt H' e13 d13 T.c_HasStory.C [("filling", .int a)] → ErAt H' e14 d14 T.c_NoLetter.C [("name", .int a)] → ErAt H' e15 d15 T.c_OtherWires.C [("what", .int a)] → ErAt H' e16 d16 T.c_NoBox.C [("what", .int a)] → ErAt H' e17 d17 T.c_BadLot.C [("index", .int a)] → ErAt H' e18 d18 T.c_NoRing.C [("lot", .int a)] → ErAt H' e19 d19 T.c_BadTurns.C [("turns", .int a)] → ErAt H' e20 d20 T.c_NotStaying.C [("post", .int a)] → ErAt H' e21 d21 T.c_BadOuts.C [("outs", .int a)] → ErAt H' e22 d22 T.c_BadShare.C [("share", .int a)] → ErAt H' e23 d23 T.c_BadSlip.C [("slip", .int a)] → ErAt H' e24 d24 T.c_BadNear.C [("within", .int a)] → M_law_first_4 T a H [some (.int a), some (.ref L0), some (.ref K3), some (.ref L2), some (.ref L4)] H'
theorem el_law_first_4 (T : Tx K mg) {a : Int} {H : Hp} {U : L2.St → Hp → Prop} (k : ∀ (H' : Hp) (L0 K3 L2 L4 e1 d1 e2 d2 e3 d3 e4 d4 e5 d5 e6 d6 e7 d7 e8 d8 e9 d9 e10 d10 e11 d11 e12 d12 e13 d13 e14 d14 e15 d15 e16 d16 e17 d17 e18 d18 e19 d19 e20 d20 e21 d21 e22 d22 e23 d23 e24 d24 : Addr), Same H H' → H' L0 = some (.lst [.ref e1, .ref e2, .ref e3, .ref e4, .ref e5, .ref e6, .ref e7, .ref e8]) → H' K3 = some (.lst [.int a, .int a, .int a, .int a, .int a, .int a, .int a, .int a, .int a, .int a, .int a, .int a, .int a, .int a, .int a, .int a]) → H' L2 = some (.lst [.ref e9, .ref e10, .ref e11, .ref e12, .ref e13, .ref e14, .ref e15, .ref e16]) → H' L4 = some (.lst [.ref e17, .ref e18, .ref e19, .ref e20, .ref e21, .ref e22, .ref e23, .ref e24]) → ErAt H' e1 d1 T.c_BadRatio.C [("what", .int a)] → ErAt H' e2 d2 T.c_NoFilling.C [("thing", .int a)] → ErAt H' e3 d3 T.c_NoSuchBox.C [("index", .int a)] → ErAt H' e4 d4 T.c_NoWire.C [("name", .int a)] → ErAt H' e5 d5 T.c_BadIns.C [("index", .int a)] → ErAt H' e6 d6 T.c_BadPost.C [("index", .int a)] → ErAt H' e7 d7 T.c_ChanceBox.C [("index", .int a)] → ErAt H' e8 d8 T.c_BadNaming.C [("index", .int a)] → ErAt H' e9 d9 T.c_BadOrder.C [("order", .int a)] → ErAt H' e10 d10 T.c_BadDays.C [("days", .int a)] → ErAt H' e11 d11 T.c_TooMany.C [("most", .int a)] → ErAt H' e12 d12 T.c_NoStory.C [("thing", .int a)] → ErAt H' e13 d13 T.c_HasStory.C [("filling", .int a)] → ErAt H' e14 d14 T.c_NoLetter.C [("name", .int a)] → ErAt H' e15 d15 T.c_OtherWires.C [("what", .int a)] → ErAt H' e16 d16 T.c_NoBox.C [("what", .int a)] → ErAt H' e17 d17 T.c_BadLot.C [("index", .int a)] → ErAt H' e18 d18 T.c_NoRing.C [("lot", .int a)] → ErAt H' e19 d19 T.c_BadTurns.C [("turns", .int a)] → ErAt H' e20 d20 T.c_NotStaying.C [("post", .int a)] → ErAt H' e21 d21 T.c_BadOuts.C [("outs", .int a)] → ErAt H' e22 d22 T.c_BadShare.C [("share", .int a)] → ErAt H' e23 d23 T.c_BadSlip.C [("slip", .int a)] → ErAt H' e24 d24 T.c_BadNear.C [("within", .int a)] → U [some (.int a), some (.ref L0), some (.ref K3), some (.ref L2), some (.ref L4)] H') : ∀ σ' H', M_law_first_4 T a H σ' H' → U σ' H' := fun _ _ h => M_law_first_4.rec (motive := fun σ' H' _ => U σ' H') (fun {H'} => k H') h
inductive M_law_first_5 {K : PySem.W.Frag} {mg : Str → Option Value} (T : Tx K mg) (a : Int) (H : Hp) : L2.St → Hp → Prop
  | mk {H' : Hp} (L0 K5 L2 L4 e1 d1 e2 d2 e3 d3 e4 d4 e5 d5 e6 d6 e7 d7 e8 d8 e9 d9 e10 d10 e11 d11 e12 d12 e13 d13 e14 d14 e15 d15 e16 d16 e17 d17 e18 d18 e19 d19 e20 d20 e21 d21 e22 d22 e23 d23 e24 d24 : Addr) : Same H H' → H' L0 = some (.lst [.ref e1, .ref e2, .ref e3, .ref e4, .ref e5, .ref e6, .ref e7, .ref e8]) → H' K5 = some (.lst [.int a, .int a, .int a, .int a, .int a, .int a, .int a, .int a, .int a, .int a, .int a, .int a, .int a, .int a, .int a, .int a, .int a, .int a, .int a, .int a, .int a, .int a, .int a, .int a]) → H' L2 = some (.lst [.ref e9, .ref e10, .ref e11, .ref e12, .ref e13, .ref e14, .ref e15, .ref e16]) → H' L4 = some (.lst [.ref e17, .ref e18, .ref e19, .ref e20, .ref e21, .ref e22, .ref e23, .ref e24]) → ErAt H' e1 d1 T.c_BadRatio.C [("what", .int a)] → ErAt H' e2 d2 T.c_NoFilling.C [("thing", .int a)] → ErAt H' e3 d3 T.c_NoSuchBox.C [("index", .int a)] → ErAt H' e4 d4 T.c_NoWire.C [("name", .int a)] → ErAt H' e5 d5 T.c_BadIns.C [("index", .int a)] → ErAt H' e6 d6 T.c_BadPost.C [("index", .int a)] → ErAt H' e7 d7 T.c_ChanceBox.C [("index", .int a)] → ErAt H' e8 d8 T.c_BadNaming.C [("index", .int a)] → ErAt H' e9 d9 T.c_BadOrder.C [("order", .int a)] → ErAt H' e10 d10 T.c_BadDays.C [("days", .int a)] → ErAt H' e11 d11 T.c_TooMany.C [("most", .int a)] → ErAt H' e12 d12 T.c_NoStory.C [("thing", .int a)] → ErAt H' e13 d13 T.c_HasStory.C [("filling", .int a)] → ErAt H' e14 d14 T.c_NoLetter.C [("name", .int a)] → ErAt H' e15 d15 T.c_OtherWires.C [("what", .int a)] → ErAt H' e16 d16 T.c_NoBox.C [("what", .int a)] → ErAt H' e17 d17 T.c_BadLot.C [("index", .int a)] → ErAt H' e18 d18 T.c_NoRing.C [("lot", .int a)] → ErAt H' e19 d19 T.c_BadTurns.C [("turns", .int a)] → ErAt H' e20 d20 T.c_NotStaying.C [("post", .int a)] → ErAt H' e21 d21 T.c_BadOuts.C [("outs", .int a)] → ErAt H' e22 d22 T.c_BadShare.C [("share", .int a)] → ErAt H' e23 d23 T.c_BadSlip.C [("slip", .int a)] → ErAt H' e24 d24 T.c_BadNear.C [("within", .int a)] → M_law_first_5 T a H [some (.int a), some (.ref L0), some (.ref K5), some (.ref L2), some (.ref L4)] H'
theorem el_law_first_5 (T : Tx K mg) {a : Int} {H : Hp} {U : L2.St → Hp → Prop} (k : ∀ (H' : Hp) (L0 K5 L2 L4 e1 d1 e2 d2 e3 d3 e4 d4 e5 d5 e6 d6 e7 d7 e8 d8 e9 d9 e10 d10 e11 d11 e12 d12 e13 d13 e14 d14 e15 d15 e16 d16 e17 d17 e18 d18 e19 d19 e20 d20 e21 d21 e22 d22 e23 d23 e24 d24 : Addr), Same H H' → H' L0 = some (.lst [.ref e1, .ref e2, .ref e3, .ref e4, .ref e5, .ref e6, .ref e7, .ref e8]) → H' K5 = some (.lst [.int a, .int a, .int a, .int a, .int a, .int a, .int a, .int a, .int a, .int a, .int a, .int a, .int a, .int a, .int a, .int a, .int a, .int a, .int a, .int a, .int a, .int a, .int a, .int a]) → H' L2 = some (.lst [.ref e9, .ref e10, .ref e11, .ref e12, .ref e13, .ref e14, .ref e15, .ref e16]) → H' L4 = some (.lst [.ref e17, .ref e18, .ref e19, .ref e20, .ref e21, .ref e22, .ref e23, .ref e24]) → ErAt H' e1 d1 T.c_BadRatio.C [("what", .int a)] → ErAt H' e2 d2 T.c_NoFilling.C [("thing", .int a)] → ErAt H' e3 d3 T.c_NoSuchBox.C [("index", .int a)] → ErAt H' e4 d4 T.c_NoWire.C [("name", .int a)] → ErAt H' e5 d5 T.c_BadIns.C [("index", .int a)] → ErAt H' e6 d6 T.c_BadPost.C [("index", .int a)] → ErAt H' e7 d7 T.c_ChanceBox.C [("index", .int a)] → ErAt H' e8 d8 T.c_BadNaming.C [("index", .int a)] → ErAt H' e9 d9 T.c_BadOrder.C [("order", .int a)] → ErAt H' e10 d10 T.c_BadDays.C [("days", .int a)] → ErAt H' e11 d11 T.c_TooMany.C [("most", .int a)] → ErAt H' e12 d12 T.c_NoStory.C [("thing", .int a)] → ErAt H' e13 d13 T.c_HasStory.C [("filling", .int a)] → ErAt H' e14 d14 T.c_NoLetter.C [("name", .int a)] → ErAt H' e15 d15 T.c_OtherWires.C [("what", .int a)] → ErAt H' e16 d16 T.c_NoBox.C [("what", .int a)] → ErAt H' e17 d17 T.c_BadLot.C [("index", .int a)] → ErAt H' e18 d18 T.c_NoRing.C [("lot", .int a)] → ErAt H' e19 d19 T.c_BadTurns.C [("turns", .int a)] → ErAt H' e20 d20 T.c_NotStaying.C [("post", .int a)] → ErAt H' e21 d21 T.c_BadOuts.C [("outs", .int a)] → ErAt H' e22 d22 T.c_BadShare.C [("share", .int a)] → ErAt H' e23 d23 T.c_BadSlip.C [("slip", .int a)] → ErAt H' e24 d24 T.c_BadNear.C [("within", .int a)] → U [some (.int a), some (.ref L0), some (.ref K5), some (.ref L2), some (.ref L4)] H') : ∀ σ' H', M_law_first_5 T a H σ' H' → U σ' H' := fun _ _ h => M_law_first_5.rec (motive := fun σ' H' _ => U σ' H') (fun {H'} => k H') h
theorem ok_law_first (T : Tx K mg) : FnOk P w K mg base CX0 3 T.law_first.f T.law_first.fd ["_law_a"] (spMk K T.LE T.D_law_first 1 ok1) := by
  refine T.law_first.F.ok sc_law_first (fun vs H Q E h => h.1) (fun cdv A outer s H vs Q E hr h => ?_)
  · obtain ⟨hl, hi, k⟩ := h
    obtain ⟨a, rfl⟩ : ∃ a, vs = [V.int a] := by
      match vs, hl with
      | [x], _ =>
        obtain ⟨a, rfl⟩ := hi x (by simp)
        exact ⟨a, rfl⟩
    refine ⟨_, (cut (ps_set (i := 1) sc_law_first.nd rfl (Or.inl rfl) (pe_lst (pa_cons (pe_m1 T.c_BadRatio (hr.mono (by decide)) (by rfl) (pv 0) (mono_var 0)) (pa_cons (pe_m1 T.c_NoFilling (hr.mono (by decide)) (by rfl) (pv 0) (mono_var 0)) (pa_cons (pe_m1 T.c_NoSuchBox (hr.mono (by decide)) (by rfl) (pv 0) (mono_var 0)) (pa_cons (pe_m1 T.c_NoWire (hr.mono (by decide)) (by rfl) (pv 0) (mono_var 0)) (pa_cons (pe_m1 T.c_BadIns (hr.mono (by decide)) (by rfl) (pv 0) (mono_var 0)) (pa_cons (pe_m1 T.c_BadPost (hr.mono (by decide)) (by rfl) (pv 0) (mono_var 0)) (pa_cons (pe_m1 T.c_ChanceBox (hr.mono (by decide)) (by rfl) (pv 0) (mono_var 0)) (pa_cons (pe_m1 T.c_BadNaming (hr.mono (by decide)) (by rfl) (pv 0) (mono_var 0)) pa_nil))))))))))
  (cut (ps_set (i := 2) sc_law_first.nd rfl (Or.inl rfl) (pe_lst (pa_cons (pe_fldE (pe_ix ix_list (pv 1) pe_int (fun _ _ => rfl))) (pa_cons (pe_fldE (pe_ix ix_list (pv 1) pe_int (fun _ _ => rfl))) (pa_cons (pe_fldE (pe_ix ix_list (pv 1) pe_int (fun _ _ => rfl))) (pa_cons (pe_fldE (pe_ix ix_list (pv 1) pe_int (fun _ _ => rfl))) (pa_cons (pe_fldE (pe_ix ix_list (pv 1) pe_int (fun _ _ => rfl))) (pa_cons (pe_fldE (pe_ix ix_list (pv 1) pe_int (fun _ _ => rfl))) (pa_cons (pe_fldE (pe_ix ix_list (pv 1) pe_int (fun _ _ => rfl))) (pa_cons (pe_fldE (pe_ix ix_list (pv 1) pe_int (fun _ _ => rfl))) pa_nil))))))))))
  (cut (ps_set (i := 3) sc_law_first.nd rfl (Or.inl rfl) (pe_lst (pa_cons (pe_m1 T.c_BadOrder (hr.mono (by decide)) (by rfl) (pv 0) (mono_var 0)) (pa_cons (pe_m1 T.c_BadDays (hr.mono (by decide)) (by rfl) (pv 0) (mono_var 0)) (pa_cons (pe_m1 T.c_TooMany (hr.mono (by decide)) (by rfl) (pv 0) (mono_var 0)) (pa_cons (pe_m1 T.c_NoStory (hr.mono (by decide)) (by rfl) (pv 0) (mono_var 0)) (pa_cons (pe_m1 T.c_HasStory (hr.mono (by decide)) (by rfl) (pv 0) (mono_var 0)) (pa_cons (pe_m1 T.c_NoLetter (hr.mono (by decide)) (by rfl) (pv 0) (mono_var 0)) (pa_cons (pe_m1 T.c_OtherWires (hr.mono (by decide)) (by rfl) (pv 0) (mono_var 0)) (pa_cons (pe_m1 T.c_NoBox (hr.mono (by decide)) (by rfl) (pv 0) (mono_var 0)) pa_nil))))))))))
  (cut (ps_set (i := 2) sc_law_first.nd rfl (Or.inl rfl) (pe_op op_cat (pv 2) (pe_lst (pa_cons (pe_fldE (pe_ix ix_list (pv 3) pe_int (fun _ _ => rfl))) (pa_cons (pe_fldE (pe_ix ix_list (pv 3) pe_int (fun _ _ => rfl))) (pa_cons (pe_fldE (pe_ix ix_list (pv 3) pe_int (fun _ _ => rfl))) (pa_cons (pe_fldE (pe_ix ix_list (pv 3) pe_int (fun _ _ => rfl))) (pa_cons (pe_fldE (pe_ix ix_list (pv 3) pe_int (fun _ _ => rfl))) (pa_cons (pe_fldE (pe_ix ix_list (pv 3) pe_int (fun _ _ => rfl))) (pa_cons (pe_fldE (pe_ix ix_list (pv 3) pe_int (fun _ _ => rfl))) (pa_cons (pe_fldE (pe_ix ix_list (pv 3) pe_int (fun _ _ => rfl))) pa_nil)))))))))))
  (cut (ps_set (i := 4) sc_law_first.nd rfl (Or.inl rfl) (pe_lst (pa_cons (pe_m1 T.c_BadLot (hr.mono (by decide)) (by rfl) (pv 0) (mono_var 0)) (pa_cons (pe_m1 T.c_NoRing (hr.mono (by decide)) (by rfl) (pv 0) (mono_var 0)) (pa_cons (pe_m1 T.c_BadTurns (hr.mono (by decide)) (by rfl) (pv 0) (mono_var 0)) (pa_cons (pe_m1 T.c_NotStaying (hr.mono (by decide)) (by rfl) (pv 0) (mono_var 0)) (pa_cons (pe_m1 T.c_BadOuts (hr.mono (by decide)) (by rfl) (pv 0) (mono_var 0)) (pa_cons (pe_m1 T.c_BadShare (hr.mono (by decide)) (by rfl) (pv 0) (mono_var 0)) (pa_cons (pe_m1 T.c_BadSlip (hr.mono (by decide)) (by rfl) (pv 0) (mono_var 0)) (pa_cons (pe_m1 T.c_BadNear (hr.mono (by decide)) (by rfl) (pv 0) (mono_var 0)) pa_nil))))))))))
  (cut (ps_set (i := 2) sc_law_first.nd rfl (Or.inl rfl) (pe_op op_cat (pv 2) (pe_lst (pa_cons (pe_fldE (pe_ix ix_list (pv 4) pe_int (fun _ _ => rfl))) (pa_cons (pe_fldE (pe_ix ix_list (pv 4) pe_int (fun _ _ => rfl))) (pa_cons (pe_fldE (pe_ix ix_list (pv 4) pe_int (fun _ _ => rfl))) (pa_cons (pe_fldE (pe_ix ix_list (pv 4) pe_int (fun _ _ => rfl))) (pa_cons (pe_fldE (pe_ix ix_list (pv 4) pe_int (fun _ _ => rfl))) (pa_cons (pe_fldE (pe_ix ix_list (pv 4) pe_int (fun _ _ => rfl))) (pa_cons (pe_fldE (pe_ix ix_list (pv 4) pe_int (fun _ _ => rfl))) (pa_cons (pe_fldE (pe_ix ix_list (pv 4) pe_int (fun _ _ => rfl))) pa_nil)))))))))))
  (pss_one (ps_ret (pe_lst (pa_cons (pe_op op_cat (pe_op op_cat (pv 1) (pv 3)) (pv 4)) (pa_cons (pv 2) pa_nil))))))))))), ?_⟩
    refine ⟨M_law_first_0 T a H, ?_, ?_⟩
    · refine ⟨_, rfl, fun e1 G1 m1 => ⟨_, rfl, fun e2 G2 m2 => ⟨_, rfl, fun e3 G3 m3 => ⟨_, rfl, fun e4 G4 m4 => ⟨_, rfl, fun e5 G5 m5 => ⟨_, rfl, fun e6 G6 m6 => ⟨_, rfl, fun e7 G7 m7 => ⟨_, rfl, fun e8 G8 m8 => ⟨(by show 8 ≤ sizeLine; decide), fun L0 nL0 => ?_⟩⟩⟩⟩⟩⟩⟩⟩⟩
      obtain ⟨q1, _, d1, x1, y1⟩ := m1
      obtain ⟨q2, _, d2, x2, y2⟩ := m2
      obtain ⟨q3, _, d3, x3, y3⟩ := m3
      obtain ⟨q4, _, d4, x4, y4⟩ := m4
      obtain ⟨q5, _, d5, x5, y5⟩ := m5
      obtain ⟨q6, _, d6, x6, y6⟩ := m6
      obtain ⟨q7, _, d7, x7, y7⟩ := m7
      obtain ⟨q8, _, d8, x8, y8⟩ := m8
      have z8 : Same G8 (upd G8 L0 (.lst [.ref e1, .ref e2, .ref e3, .ref e4, .ref e5, .ref e6, .ref e7, .ref e8])) := same_new nL0
      have z7 := q8.trans z8
      have z6 := q7.trans z7
      have z5 := q6.trans z6
      have z4 := q5.trans z5
      have z3 := q4.trans z4
      have z2 := q3.trans z3
      have z1 := q2.trans z2
      have z0 := q1.trans z1
      exact ⟨_, _, _, _, _, _, _, _, _, _, _, _, _, _, _, _, _, z0, upd_same, ⟨z1 _ _ x1, z1 _ _ y1⟩, ⟨z2 _ _ x2, z2 _ _ y2⟩, ⟨z3 _ _ x3, z3 _ _ y3⟩, ⟨z4 _ _ x4, z4 _ _ y4⟩, ⟨z5 _ _ x5, z5 _ _ y5⟩, ⟨z6 _ _ x6, z6 _ _ y6⟩, ⟨z7 _ _ x7, z7 _ _ y7⟩, ⟨z8 _ _ x8, z8 _ _ y8⟩⟩
    refine el_law_first_0 T ?_
    intro H0 L0 e1 d1 e2 d2 e3 d3 e4 d4 e5 d5 e6 d6 e7 d7 e8 d8 S l_L0 r_e1 r_e2 r_e3 r_e4 r_e5 r_e6 r_e7 r_e8
    refine ⟨M_law_first_1 T a H, ?_, ?_⟩
    · refine ⟨_, rfl, L0, _, 0, _, rfl, rfl, SqL.of l_L0, atI_nat rfl, e1, _, d1, _, _, rfl, r_e1.1, T.c_BadRatio.T, T.c_BadRatio.nf, r_e1.2, lk1, _, rfl, L0, _, 1, _, rfl, rfl, SqL.of l_L0, atI_nat rfl, e2, _, d2, _, _, rfl, r_e2.1, T.c_NoFilling.T, T.c_NoFilling.nf, r_e2.2, lk1, _, rfl, L0, _, 2, _, rfl, rfl, SqL.of l_L0, atI_nat rfl, e3, _, d3, _, _, rfl, r_e3.1, T.c_NoSuchBox.T, T.c_NoSuchBox.nf, r_e3.2, lk1, _, rfl, L0, _, 3, _, rfl, rfl, SqL.of l_L0, atI_nat rfl, e4, _, d4, _, _, rfl, r_e4.1, T.c_NoWire.T, T.c_NoWire.nf, r_e4.2, lk1, _, rfl, L0, _, 4, _, rfl, rfl, SqL.of l_L0, atI_nat rfl, e5, _, d5, _, _, rfl, r_e5.1, T.c_BadIns.T, T.c_BadIns.nf, r_e5.2, lk1, _, rfl, L0, _, 5, _, rfl, rfl, SqL.of l_L0, atI_nat rfl, e6, _, d6, _, _, rfl, r_e6.1, T.c_BadPost.T, T.c_BadPost.nf, r_e6.2, lk1, _, rfl, L0, _, 6, _, rfl, rfl, SqL.of l_L0, atI_nat rfl, e7, _, d7, _, _, rfl, r_e7.1, T.c_ChanceBox.T, T.c_ChanceBox.nf, r_e7.2, lk1, _, rfl, L0, _, 7, _, rfl, rfl, SqL.of l_L0, atI_nat rfl, e8, _, d8, _, _, rfl, r_e8.1, T.c_BadNaming.T, T.c_BadNaming.nf, r_e8.2, lk1, (by show 8 ≤ sizeLine; decide), fun K1 nK1 => ?_⟩
      have W := same_new (o := .lst [.int a, .int a, .int a, .int a, .int a, .int a, .int a, .int a]) nK1
      exact ⟨_, _, _, _, _, _, _, _, _, _, _, _, _, _, _, _, _, _, S.trans W, (W _ _ l_L0), upd_same, (r_e1.same W), (r_e2.same W), (r_e3.same W), (r_e4.same W), (r_e5.same W), (r_e6.same W), (r_e7.same W), (r_e8.same W)⟩
    refine el_law_first_1 T ?_
    intro H1 L0 K1 e1 d1 e2 d2 e3 d3 e4 d4 e5 d5 e6 d6 e7 d7 e8 d8 S l_L0 l_K1 r_e1 r_e2 r_e3 r_e4 r_e5 r_e6 r_e7 r_e8
    refine ⟨M_law_first_2 T a H, ?_, ?_⟩
    · refine ⟨_, rfl, fun e9 G9 m9 => ⟨_, rfl, fun e10 G10 m10 => ⟨_, rfl, fun e11 G11 m11 => ⟨_, rfl, fun e12 G12 m12 => ⟨_, rfl, fun e13 G13 m13 => ⟨_, rfl, fun e14 G14 m14 => ⟨_, rfl, fun e15 G15 m15 => ⟨_, rfl, fun e16 G16 m16 => ⟨(by show 8 ≤ sizeLine; decide), fun L2 nL2 => ?_⟩⟩⟩⟩⟩⟩⟩⟩⟩
      obtain ⟨q9, _, d9, x9, y9⟩ := m9
      obtain ⟨q10, _, d10, x10, y10⟩ := m10
      obtain ⟨q11, _, d11, x11, y11⟩ := m11
      obtain ⟨q12, _, d12, x12, y12⟩ := m12
      obtain ⟨q13, _, d13, x13, y13⟩ := m13
      obtain ⟨q14, _, d14, x14, y14⟩ := m14
      obtain ⟨q15, _, d15, x15, y15⟩ := m15
      obtain ⟨q16, _, d16, x16, y16⟩ := m16
      have z16 : Same G16 (upd G16 L2 (.lst [.ref e9, .ref e10, .ref e11, .ref e12, .ref e13, .ref e14, .ref e15, .ref e16])) := same_new nL2
      have z15 := q16.trans z16
      have z14 := q15.trans z15
      have z13 := q14.trans z14
      have z12 := q13.trans z13
      have z11 := q12.trans z12
      have z10 := q11.trans z11
      have z9 := q10.trans z10
      have z0 := q9.trans z9
      exact ⟨_, _, _, _, _, _, _, _, _, _, _, _, _, _, _, _, _, _, _, _, _, _, _, _, _, _, _, _, _, _, _, _, _, _, _, S.trans z0, (z0 _ _ l_L0), (z0 _ _ l_K1), upd_same, (r_e1.same z0), (r_e2.same z0), (r_e3.same z0), (r_e4.same z0), (r_e5.same z0), (r_e6.same z0), (r_e7.same z0), (r_e8.same z0), ⟨z9 _ _ x9, z9 _ _ y9⟩, ⟨z10 _ _ x10, z10 _ _ y10⟩, ⟨z11 _ _ x11, z11 _ _ y11⟩, ⟨z12 _ _ x12, z12 _ _ y12⟩, ⟨z13 _ _ x13, z13 _ _ y13⟩, ⟨z14 _ _ x14, z14 _ _ y14⟩, ⟨z15 _ _ x15, z15 _ _ y15⟩, ⟨z16 _ _ x16, z16 _ _ y16⟩⟩
    refine el_law_first_2 T ?_
    intro H2 L0 K1 L2 e1 d1 e2 d2 e3 d3 e4 d4 e5 d5 e6 d6 e7 d7 e8 d8 e9 d9 e10 d10 e11 d11 e12 d12 e13 d13 e14 d14 e15 d15 e16 d16 S l_L0 l_K1 l_L2 r_e1 r_e2 r_e3 r_e4 r_e5 r_e6 r_e7 r_e8 r_e9 r_e10 r_e11 r_e12 r_e13 r_e14 r_e15 r_e16
    refine ⟨M_law_first_3 T a H, ?_, ?_⟩
    · refine ⟨_, rfl, _, rfl, L2, _, 0, _, rfl, rfl, SqL.of l_L2, atI_nat rfl, e9, _, d9, _, _, rfl, r_e9.1, T.c_BadOrder.T, T.c_BadOrder.nf, r_e9.2, lk1, _, rfl, L2, _, 1, _, rfl, rfl, SqL.of l_L2, atI_nat rfl, e10, _, d10, _, _, rfl, r_e10.1, T.c_BadDays.T, T.c_BadDays.nf, r_e10.2, lk1, _, rfl, L2, _, 2, _, rfl, rfl, SqL.of l_L2, atI_nat rfl, e11, _, d11, _, _, rfl, r_e11.1, T.c_TooMany.T, T.c_TooMany.nf, r_e11.2, lk1, _, rfl, L2, _, 3, _, rfl, rfl, SqL.of l_L2, atI_nat rfl, e12, _, d12, _, _, rfl, r_e12.1, T.c_NoStory.T, T.c_NoStory.nf, r_e12.2, lk1, _, rfl, L2, _, 4, _, rfl, rfl, SqL.of l_L2, atI_nat rfl, e13, _, d13, _, _, rfl, r_e13.1, T.c_HasStory.T, T.c_HasStory.nf, r_e13.2, lk1, _, rfl, L2, _, 5, _, rfl, rfl, SqL.of l_L2, atI_nat rfl, e14, _, d14, _, _, rfl, r_e14.1, T.c_NoLetter.T, T.c_NoLetter.nf, r_e14.2, lk1, _, rfl, L2, _, 6, _, rfl, rfl, SqL.of l_L2, atI_nat rfl, e15, _, d15, _, _, rfl, r_e15.1, T.c_OtherWires.T, T.c_OtherWires.nf, r_e15.2, lk1, _, rfl, L2, _, 7, _, rfl, rfl, SqL.of l_L2, atI_nat rfl, e16, _, d16, _, _, rfl, r_e16.1, T.c_NoBox.T, T.c_NoBox.nf, r_e16.2, lk1, (by show 8 ≤ sizeLine; decide), fun M nM => ?_⟩
      have v0 := same_new (o := .lst [.int a, .int a, .int a, .int a, .int a, .int a, .int a, .int a]) nM
      refine ⟨K1, M, _, _, rfl, rfl, v0 _ _ l_K1, upd_same, (by show 8 + 8 ≤ sizeLine; decide), fun K3 nK3 => ?_⟩
      have W := v0.trans (same_new (o := .lst [.int a, .int a, .int a, .int a, .int a, .int a, .int a, .int a, .int a, .int a, .int a, .int a, .int a, .int a, .int a, .int a]) nK3)
      exact ⟨_, _, _, _, _, _, _, _, _, _, _, _, _, _, _, _, _, _, _, _, _, _, _, _, _, _, _, _, _, _, _, _, _, _, _, S.trans W, (W _ _ l_L0), upd_same, (W _ _ l_L2), (r_e1.same W), (r_e2.same W), (r_e3.same W), (r_e4.same W), (r_e5.same W), (r_e6.same W), (r_e7.same W), (r_e8.same W), (r_e9.same W), (r_e10.same W), (r_e11.same W), (r_e12.same W), (r_e13.same W), (r_e14.same W), (r_e15.same W), (r_e16.same W)⟩
    refine el_law_first_3 T ?_
    intro H3 L0 K3 L2 e1 d1 e2 d2 e3 d3 e4 d4 e5 d5 e6 d6 e7 d7 e8 d8 e9 d9 e10 d10 e11 d11 e12 d12 e13 d13 e14 d14 e15 d15 e16 d16 S l_L0 l_K3 l_L2 r_e1 r_e2 r_e3 r_e4 r_e5 r_e6 r_e7 r_e8 r_e9 r_e10 r_e11 r_e12 r_e13 r_e14 r_e15 r_e16
    refine ⟨M_law_first_4 T a H, ?_, ?_⟩
    · refine ⟨_, rfl, fun e17 G17 m17 => ⟨_, rfl, fun e18 G18 m18 => ⟨_, rfl, fun e19 G19 m19 => ⟨_, rfl, fun e20 G20 m20 => ⟨_, rfl, fun e21 G21 m21 => ⟨_, rfl, fun e22 G22 m22 => ⟨_, rfl, fun e23 G23 m23 => ⟨_, rfl, fun e24 G24 m24 => ⟨(by show 8 ≤ sizeLine; decide), fun L4 nL4 => ?_⟩⟩⟩⟩⟩⟩⟩⟩⟩
      obtain ⟨q17, _, d17, x17, y17⟩ := m17
      obtain ⟨q18, _, d18, x18, y18⟩ := m18
      obtain ⟨q19, _, d19, x19, y19⟩ := m19
      obtain ⟨q20, _, d20, x20, y20⟩ := m20
      obtain ⟨q21, _, d21, x21, y21⟩ := m21
      obtain ⟨q22, _, d22, x22, y22⟩ := m22
      obtain ⟨q23, _, d23, x23, y23⟩ := m23
      obtain ⟨q24, _, d24, x24, y24⟩ := m24
      have z24 : Same G24 (upd G24 L4 (.lst [.ref e17, .ref e18, .ref e19, .ref e20, .ref e21, .ref e22, .ref e23, .ref e24])) := same_new nL4
      have z23 := q24.trans z24
      have z22 := q23.trans z23
      have z21 := q22.trans z22
      have z20 := q21.trans z21
      have z19 := q20.trans z20
      have z18 := q19.trans z19
      have z17 := q18.trans z18
      have z0 := q17.trans z17
      exact ⟨_, _, _, _, _, _, _, _, _, _, _, _, _, _, _, _, _, _, _, _, _, _, _, _, _, _, _, _, _, _, _, _, _, _, _, _, _, _, _, _, _, _, _, _, _, _, _, _, _, _, _, _, S.trans z0, (z0 _ _ l_L0), (z0 _ _ l_K3), (z0 _ _ l_L2), upd_same, (r_e1.same z0), (r_e2.same z0), (r_e3.same z0), (r_e4.same z0), (r_e5.same z0), (r_e6.same z0), (r_e7.same z0), (r_e8.same z0), (r_e9.same z0), (r_e10.same z0), (r_e11.same z0), (r_e12.same z0), (r_e13.same z0), (r_e14.same z0), (r_e15.same z0), (r_e16.same z0), ⟨z17 _ _ x17, z17 _ _ y17⟩, ⟨z18 _ _ x18, z18 _ _ y18⟩, ⟨z19 _ _ x19, z19 _ _ y19⟩, ⟨z20 _ _ x20, z20 _ _ y20⟩, ⟨z21 _ _ x21, z21 _ _ y21⟩, ⟨z22 _ _ x22, z22 _ _ y22⟩, ⟨z23 _ _ x23, z23 _ _ y23⟩, ⟨z24 _ _ x24, z24 _ _ y24⟩⟩
    refine el_law_first_4 T ?_
    intro H4 L0 K3 L2 L4 e1 d1 e2 d2 e3 d3 e4 d4 e5 d5 e6 d6 e7 d7 e8 d8 e9 d9 e10 d10 e11 d11 e12 d12 e13 d13 e14 d14 e15 d15 e16 d16 e17 d17 e18 d18 e19 d19 e20 d20 e21 d21 e22 d22 e23 d23 e24 d24 S l_L0 l_K3 l_L2 l_L4 r_e1 r_e2 r_e3 r_e4 r_e5 r_e6 r_e7 r_e8 r_e9 r_e10 r_e11 r_e12 r_e13 r_e14 r_e15 r_e16 r_e17 r_e18 r_e19 r_e20 r_e21 r_e22 r_e23 r_e24
    refine ⟨M_law_first_5 T a H, ?_, ?_⟩
    · refine ⟨_, rfl, _, rfl, L4, _, 0, _, rfl, rfl, SqL.of l_L4, atI_nat rfl, e17, _, d17, _, _, rfl, r_e17.1, T.c_BadLot.T, T.c_BadLot.nf, r_e17.2, lk1, _, rfl, L4, _, 1, _, rfl, rfl, SqL.of l_L4, atI_nat rfl, e18, _, d18, _, _, rfl, r_e18.1, T.c_NoRing.T, T.c_NoRing.nf, r_e18.2, lk1, _, rfl, L4, _, 2, _, rfl, rfl, SqL.of l_L4, atI_nat rfl, e19, _, d19, _, _, rfl, r_e19.1, T.c_BadTurns.T, T.c_BadTurns.nf, r_e19.2, lk1, _, rfl, L4, _, 3, _, rfl, rfl, SqL.of l_L4, atI_nat rfl, e20, _, d20, _, _, rfl, r_e20.1, T.c_NotStaying.T, T.c_NotStaying.nf, r_e20.2, lk1, _, rfl, L4, _, 4, _, rfl, rfl, SqL.of l_L4, atI_nat rfl, e21, _, d21, _, _, rfl, r_e21.1, T.c_BadOuts.T, T.c_BadOuts.nf, r_e21.2, lk1, _, rfl, L4, _, 5, _, rfl, rfl, SqL.of l_L4, atI_nat rfl, e22, _, d22, _, _, rfl, r_e22.1, T.c_BadShare.T, T.c_BadShare.nf, r_e22.2, lk1, _, rfl, L4, _, 6, _, rfl, rfl, SqL.of l_L4, atI_nat rfl, e23, _, d23, _, _, rfl, r_e23.1, T.c_BadSlip.T, T.c_BadSlip.nf, r_e23.2, lk1, _, rfl, L4, _, 7, _, rfl, rfl, SqL.of l_L4, atI_nat rfl, e24, _, d24, _, _, rfl, r_e24.1, T.c_BadNear.T, T.c_BadNear.nf, r_e24.2, lk1, (by show 8 ≤ sizeLine; decide), fun M nM => ?_⟩
      have v0 := same_new (o := .lst [.int a, .int a, .int a, .int a, .int a, .int a, .int a, .int a]) nM
      refine ⟨K3, M, _, _, rfl, rfl, v0 _ _ l_K3, upd_same, (by show 16 + 8 ≤ sizeLine; decide), fun K5 nK5 => ?_⟩
      have W := v0.trans (same_new (o := .lst [.int a, .int a, .int a, .int a, .int a, .int a, .int a, .int a, .int a, .int a, .int a, .int a, .int a, .int a, .int a, .int a, .int a, .int a, .int a, .int a, .int a, .int a, .int a, .int a]) nK5)
      exact ⟨_, _, _, _, _, _, _, _, _, _, _, _, _, _, _, _, _, _, _, _, _, _, _, _, _, _, _, _, _, _, _, _, _, _, _, _, _, _, _, _, _, _, _, _, _, _, _, _, _, _, _, _, S.trans W, (W _ _ l_L0), upd_same, (W _ _ l_L2), (W _ _ l_L4), (r_e1.same W), (r_e2.same W), (r_e3.same W), (r_e4.same W), (r_e5.same W), (r_e6.same W), (r_e7.same W), (r_e8.same W), (r_e9.same W), (r_e10.same W), (r_e11.same W), (r_e12.same W), (r_e13.same W), (r_e14.same W), (r_e15.same W), (r_e16.same W), (r_e17.same W), (r_e18.same W), (r_e19.same W), (r_e20.same W), (r_e21.same W), (r_e22.same W), (r_e23.same W), (r_e24.same W)⟩
    refine el_law_first_5 T ?_
    intro H5 L0 K5 L2 L4 e1 d1 e2 d2 e3 d3 e4 d4 e5 d5 e6 d6 e7 d7 e8 d8 e9 d9 e10 d10 e11 d11 e12 d12 e13 d13 e14 d14 e15 d15 e16 d16 e17 d17 e18 d18 e19 d19 e20 d20 e21 d21 e22 d22 e23 d23 e24 d24 S l_L0 l_K5 l_L2 l_L4 r_e1 r_e2 r_e3 r_e4 r_e5 r_e6 r_e7 r_e8 r_e9 r_e10 r_e11 r_e12 r_e13 r_e14 r_e15 r_e16 r_e17 r_e18 r_e19 r_e20 r_e21 r_e22 r_e23 r_e24
    have w0 : Same H5 H5 := Same.refl _
    refine ⟨_, rfl, _, rfl, L0, L2, _, _, rfl, rfl, w0 _ _ l_L0, w0 _ _ l_L2, (by show 8 + 8 ≤ sizeLine; decide), fun C0 nC0 => ?_⟩
    have v0 := same_new (o := .lst [.ref e1, .ref e2, .ref e3, .ref e4, .ref e5, .ref e6, .ref e7, .ref e8, .ref e9, .ref e10, .ref e11, .ref e12, .ref e13, .ref e14, .ref e15, .ref e16]) nC0
    have w1 := w0.trans v0
    refine ⟨_, rfl, C0, L4, _, _, rfl, rfl, upd_same, w1 _ _ l_L4, (by show 16 + 8 ≤ sizeLine; decide), fun C1 nC1 => ?_⟩
    have v1 := same_new (o := .lst [.ref e1, .ref e2, .ref e3, .ref e4, .ref e5, .ref e6, .ref e7, .ref e8, .ref e9, .ref e10, .ref e11, .ref e12, .ref e13, .ref e14, .ref e15, .ref e16, .ref e17, .ref e18, .ref e19, .ref e20, .ref e21, .ref e22, .ref e23, .ref e24]) nC1
    have w2 := w1.trans v1
    refine ⟨_, rfl, (by show 2 ≤ sizeLine; decide), fun R nR => ?_⟩
    have v2 := same_new (o := .lst [.ref C1, .ref K5]) nR
    have w3 := w2.trans v2
    refine k R C1 K5 [e1, e2, e3, e4, e5, e6, e7, e8, e9, e10, e11, e12, e13, e14, e15, e16, e17, e18, e19, e20, e21, e22, e23, e24] [.int a, .int a, .int a, .int a, .int a, .int a, .int a, .int a, .int a, .int a, .int a, .int a, .int a, .int a, .int a, .int a, .int a, .int a, .int a, .int a, .int a, .int a, .int a, .int a] _ (S.trans w3) upd_same (v2 _ _ upd_same) (w3 _ _ l_K5) rfl ?_ ?_
    · intro x hx
      simp only [List.mem_cons, List.not_mem_nil, or_false] at hx
      have : x = .int a := by rcases hx with rfl | rfl | rfl | rfl | rfl | rfl | rfl | rfl | rfl | rfl | rfl | rfl | rfl | rfl | rfl | rfl | rfl | rfl | rfl | rfl | rfl | rfl | rfl | rfl <;> rfl
      rw [this]; rfl
    · exact .cons ⟨.inl ⟨d1, _, (r_e1.same w3).1, (r_e1.same w3).2⟩, T.c_BadRatio.T, _, _, T.m_BadRatio, .inl rfl⟩ (.cons ⟨.inl ⟨d2, _, (r_e2.same w3).1, (r_e2.same w3).2⟩, T.c_NoFilling.T, _, _, T.m_NoFilling, .inl rfl⟩ (.cons ⟨.inl ⟨d3, _, (r_e3.same w3).1, (r_e3.same w3).2⟩, T.c_NoSuchBox.T, _, _, T.m_NoSuchBox, .inl rfl⟩ (.cons ⟨.inl ⟨d4, _, (r_e4.same w3).1, (r_e4.same w3).2⟩, T.c_NoWire.T, _, _, T.m_NoWire, .inl rfl⟩ (.cons ⟨.inl ⟨d5, _, (r_e5.same w3).1, (r_e5.same w3).2⟩, T.c_BadIns.T, _, _, T.m_BadIns, .inl rfl⟩ (.cons ⟨.inl ⟨d6, _, (r_e6.same w3).1, (r_e6.same w3).2⟩, T.c_BadPost.T, _, _, T.m_BadPost, .inl rfl⟩ (.cons ⟨.inl ⟨d7, _, (r_e7.same w3).1, (r_e7.same w3).2⟩, T.c_ChanceBox.T, _, _, T.m_ChanceBox, .inl rfl⟩ (.cons ⟨.inl ⟨d8, _, (r_e8.same w3).1, (r_e8.same w3).2⟩, T.c_BadNaming.T, _, _, T.m_BadNaming, .inl rfl⟩ (.cons ⟨.inl ⟨d9, _, (r_e9.same w3).1, (r_e9.same w3).2⟩, T.c_BadOrder.T, _, _, T.m_BadOrder, .inl rfl⟩ (.cons ⟨.inl ⟨d10, _, (r_e10.same w3).1, (r_e10.same w3).2⟩, T.c_BadDays.T, _, _, T.m_BadDays, .inl rfl⟩ (.cons ⟨.inl ⟨d11, _, (r_e11.same w3).1, (r_e11.same w3).2⟩, T.c_TooMany.T, _, _, T.m_TooMany, .inl rfl⟩ (.cons ⟨.inl ⟨d12, _, (r_e12.same w3).1, (r_e12.same w3).2⟩, T.c_NoStory.T, _, _, T.m_NoStory, .inl rfl⟩ (.cons ⟨.inl ⟨d13, _, (r_e13.same w3).1, (r_e13.same w3).2⟩, T.c_HasStory.T, _, _, T.m_HasStory, .inl rfl⟩ (.cons ⟨.inl ⟨d14, _, (r_e14.same w3).1, (r_e14.same w3).2⟩, T.c_NoLetter.T, _, _, T.m_NoLetter, .inl rfl⟩ (.cons ⟨.inl ⟨d15, _, (r_e15.same w3).1, (r_e15.same w3).2⟩, T.c_OtherWires.T, _, _, T.m_OtherWires, .inl rfl⟩ (.cons ⟨.inl ⟨d16, _, (r_e16.same w3).1, (r_e16.same w3).2⟩, T.c_NoBox.T, _, _, T.m_NoBox, .inl rfl⟩ (.cons ⟨.inl ⟨d17, _, (r_e17.same w3).1, (r_e17.same w3).2⟩, T.c_BadLot.T, _, _, T.m_BadLot, .inl rfl⟩ (.cons ⟨.inl ⟨d18, _, (r_e18.same w3).1, (r_e18.same w3).2⟩, T.c_NoRing.T, _, _, T.m_NoRing, .inl rfl⟩ (.cons ⟨.inl ⟨d19, _, (r_e19.same w3).1, (r_e19.same w3).2⟩, T.c_BadTurns.T, _, _, T.m_BadTurns, .inl rfl⟩ (.cons ⟨.inl ⟨d20, _, (r_e20.same w3).1, (r_e20.same w3).2⟩, T.c_NotStaying.T, _, _, T.m_NotStaying, .inl rfl⟩ (.cons ⟨.inl ⟨d21, _, (r_e21.same w3).1, (r_e21.same w3).2⟩, T.c_BadOuts.T, _, _, T.m_BadOuts, .inl rfl⟩ (.cons ⟨.inl ⟨d22, _, (r_e22.same w3).1, (r_e22.same w3).2⟩, T.c_BadShare.T, _, _, T.m_BadShare, .inl rfl⟩ (.cons ⟨.inl ⟨d23, _, (r_e23.same w3).1, (r_e23.same w3).2⟩, T.c_BadSlip.T, _, _, T.m_BadSlip, .inl rfl⟩ (.cons ⟨.inl ⟨d24, _, (r_e24.same w3).1, (r_e24.same w3).2⟩, T.c_BadNear.T, _, _, T.m_BadNear, .inl rfl⟩ (.nil))))))))))))))))))))))))
inductive M_law_second_0 {K : PySem.W.Frag} {mg : Str → Option Value} (T : Tx K mg) (a : Int) (H : Hp) : L2.St → Hp → Prop
  | mk {H' : Hp} (L0 e1 d1 e2 d2 e3 d3 e4 d4 e5 d5 e6 d6 e7 d7 e8 d8 e9 d9 : Addr) : Same H H' → H' L0 = some (.lst [.ref e1, .ref e2, .ref e3, .ref e4, .ref e5, .ref e6, .ref e7, .ref e8, .ref e9]) → ErAt H' e1 d1 T.c_BadTold.C [("index", .int a)] → ErAt H' e2 d2 T.c_BadNames.C [("index", .int a)] → ErAt H' e3 d3 T.c_NotKnown.C [("name", .int a)] → ErAt H' e4 d4 T.c_NotMade.C [("name", .int a)] → ErAt H' e5 d5 T.c_NotLeft.C [("worth", .int a)] → ErAt H' e6 d6 T.c_NoKey.C [("filling", .int a)] → ErAt H' e7 d7 T.c_BadCustom.C [("custom", .int a)] → ErAt H' e8 d8 T.c_BadWish.C [("what", .int a)] → ErAt H' e9 d9 T.c_NotOneBox.C [("what", .int a)] → M_law_second_0 T a H [some (.int a), some (.ref L0), none, none, none] H'
theorem el_law_second_0 (T : Tx K mg) {a : Int} {H : Hp} {U : L2.St → Hp → Prop} (k : ∀ (H' : Hp) (L0 e1 d1 e2 d2 e3 d3 e4 d4 e5 d5 e6 d6 e7 d7 e8 d8 e9 d9 : Addr), Same H H' → H' L0 = some (.lst [.ref e1, .ref e2, .ref e3, .ref e4, .ref e5, .ref e6, .ref e7, .ref e8, .ref e9]) → ErAt H' e1 d1 T.c_BadTold.C [("index", .int a)] → ErAt H' e2 d2 T.c_BadNames.C [("index", .int a)] → ErAt H' e3 d3 T.c_NotKnown.C [("name", .int a)] → ErAt H' e4 d4 T.c_NotMade.C [("name", .int a)] → ErAt H' e5 d5 T.c_NotLeft.C [("worth", .int a)] → ErAt H' e6 d6 T.c_NoKey.C [("filling", .int a)] → ErAt H' e7 d7 T.c_BadCustom.C [("custom", .int a)] → ErAt H' e8 d8 T.c_BadWish.C [("what", .int a)] → ErAt H' e9 d9 T.c_NotOneBox.C [("what", .int a)] → U [some (.int a), some (.ref L0), none, none, none] H') : ∀ σ' H', M_law_second_0 T a H σ' H' → U σ' H' := fun _ _ h => M_law_second_0.rec (motive := fun σ' H' _ => U σ' H') (fun {H'} => k H') h
inductive M_law_second_1 {K : PySem.W.Frag} {mg : Str → Option Value} (T : Tx K mg) (a : Int) (H : Hp) : L2.St → Hp → Prop
  | mk {H' : Hp} (L0 K1 e1 d1 e2 d2 e3 d3 e4 d4 e5 d5 e6 d6 e7 d7 e8 d8 e9 d9 : Addr) : Same H H' → H' L0 = some (.lst [.ref e1, .ref e2, .ref e3, .ref e4, .ref e5, .ref e6, .ref e7, .ref e8, .ref e9]) → H' K1 = some (.lst [.int a, .int a, .int a, .int a, .int a, .int a, .int a, .int a, .int a]) → ErAt H' e1 d1 T.c_BadTold.C [("index", .int a)] → ErAt H' e2 d2 T.c_BadNames.C [("index", .int a)] → ErAt H' e3 d3 T.c_NotKnown.C [("name", .int a)] → ErAt H' e4 d4 T.c_NotMade.C [("name", .int a)] → ErAt H' e5 d5 T.c_NotLeft.C [("worth", .int a)] → ErAt H' e6 d6 T.c_NoKey.C [("filling", .int a)] → ErAt H' e7 d7 T.c_BadCustom.C [("custom", .int a)] → ErAt H' e8 d8 T.c_BadWish.C [("what", .int a)] → ErAt H' e9 d9 T.c_NotOneBox.C [("what", .int a)] → M_law_second_1 T a H [some (.int a), some (.ref L0), some (.ref K1), none, none] H'
theorem el_law_second_1 (T : Tx K mg) {a : Int} {H : Hp} {U : L2.St → Hp → Prop} (k : ∀ (H' : Hp) (L0 K1 e1 d1 e2 d2 e3 d3 e4 d4 e5 d5 e6 d6 e7 d7 e8 d8 e9 d9 : Addr), Same H H' → H' L0 = some (.lst [.ref e1, .ref e2, .ref e3, .ref e4, .ref e5, .ref e6, .ref e7, .ref e8, .ref e9]) → H' K1 = some (.lst [.int a, .int a, .int a, .int a, .int a, .int a, .int a, .int a, .int a]) → ErAt H' e1 d1 T.c_BadTold.C [("index", .int a)] → ErAt H' e2 d2 T.c_BadNames.C [("index", .int a)] → ErAt H' e3 d3 T.c_NotKnown.C [("name", .int a)] → ErAt H' e4 d4 T.c_NotMade.C [("name", .int a)] → ErAt H' e5 d5 T.c_NotLeft.C [("worth", .int a)] → ErAt H' e6 d6 T.c_NoKey.C [("filling", .int a)] → ErAt H' e7 d7 T.c_BadCustom.C [("custom", .int a)] → ErAt H' e8 d8 T.c_BadWish.C [("what", .int a)] → ErAt H' e9 d9 T.c_NotOneBox.C [("what", .int a)] → U [some (.int a), some (.ref L0), some (.ref K1), none, none] H') : ∀ σ' H', M_law_second_1 T a H σ' H' → U σ' H' := fun _ _ h => M_law_second_1.rec (motive := fun σ' H' _ => U σ' H') (fun {H'} => k H') h
inductive M_law_second_2 {K : PySem.W.Frag} {mg : Str → Option Value} (T : Tx K mg) (a : Int) (H : Hp) : L2.St → Hp → Prop
  | mk {H' : Hp} (L0 K1 L2 e1 d1 e2 d2 e3 d3 e4 d4 e5 d5 e6 d6 e7 d7 e8 d8 e9 d9 e10 d10 e11 d11 e12 d12 e13 d13 e14 d14 e15 d15 e16 d16 : Addr) : Same H H' → H' L0 = some (.lst [.ref e1, .ref e2, .ref e3, .ref e4, .ref e5, .ref e6, .ref e7, .ref e8, .ref e9]) → H' K1 = some (.lst [.int a, .int a, .int a, .int a, .int a, .int a, .int a, .int a, .int a]) → H' L2 = some (.lst [.ref e10, .ref e11, .ref e12, .ref e13, .ref e14, .ref e15, .ref e16]) → ErAt H' e1 d1 T.c_BadTold.C [("index", .int a)] → ErAt H' e2 d2 T.c_BadNames.C [("index", .int a)] → ErAt H' e3 d3 T.c_NotKnown.C [("name", .int a)] → ErAt H' e4 d4 T.c_NotMade.C [("name", .int a)] → ErAt H' e5 d5 T.c_NotLeft.C [("worth", .int a)] → ErAt H' e6 d6 T.c_NoKey.C [("filling", .int a)] → ErAt H' e7 d7 T.c_BadCustom.C [("custom", .int a)] → ErAt H' e8 d8 T.c_BadWish.C [("what", .int a)] → ErAt H' e9 d9 T.c_NotOneBox.C [("what", .int a)] → ErAt H' e10 d10 T.c_BadHand.C [("hand", .int a)] → ErAt H' e11 d11 T.c_BadLetter.C [("letter", .int a)] → ErAt H' e12 d12 T.c_BadExchange.C [("what", .int a)] → ErAt H' e13 d13 T.c_BadDay.C [("day", .int a)] → ErAt H' e14 d14 T.c_NoDayStory.C [("number", .int a)] → ErAt H' e15 d15 T.c_BadRound.C [("what", .int a)] → ErAt H' e16 d16 T.c_OtherLetters.C [("size", .int a)] → M_law_second_2 T a H [some (.int a), some (.ref L0), some (.ref K1), some (.ref L2), none] H'
theorem el_law_second_2 (T : Tx K mg) {a : Int} {H : Hp} {U : L2.St → Hp → Prop} (k : ∀ (H' : Hp) (L0 K1 L2 e1 d1 e2 d2 e3 d3 e4 d4 e5 d5 e6 d6 e7 d7 e8 d8 e9 d9 e10 d10 e11 d11 e12 d12 e13 d13 e14 d14 e15 d15 e16 d16 : Addr), Same H H' → H' L0 = some (.lst [.ref e1, .ref e2, .ref e3, .ref e4, .ref e5, .ref e6, .ref e7, .ref e8, .ref e9]) → H' K1 = some (.lst [.int a, .int a, .int a, .int a, .int a, .int a, .int a, .int a, .int a]) → H' L2 = some (.lst [.ref e10, .ref e11, .ref e12, .ref e13, .ref e14, .ref e15, .ref e16]) → ErAt H' e1 d1 T.c_BadTold.C [("index", .int a)] → ErAt H' e2 d2 T.c_BadNames.C [("index", .int a)] → ErAt H' e3 d3 T.c_NotKnown.C [("name", .int a)] → ErAt H' e4 d4 T.c_NotMade.C [("name", .int a)] → ErAt H' e5 d5 T.c_NotLeft.C [("worth", .int a)] → ErAt H' e6 d6 T.c_NoKey.C [("filling", .int a)] → ErAt H' e7 d7 T.c_BadCustom.C [("custom", .int a)] → ErAt H' e8 d8 T.c_BadWish.C [("what", .int a)] → ErAt H' e9 d9 T.c_NotOneBox.C [("what", .int a)] → ErAt H' e10 d10 T.c_BadHand.C [("hand", .int a)] → ErAt H' e11 d11 T.c_BadLetter.C [("letter", .int a)] → ErAt H' e12 d12 T.c_BadExchange.C [("what", .int a)] → ErAt H' e13 d13 T.c_BadDay.C [("day", .int a)] → ErAt H' e14 d14 T.c_NoDayStory.C [("number", .int a)] → ErAt H' e15 d15 T.c_BadRound.C [("what", .int a)] → ErAt H' e16 d16 T.c_OtherLetters.C [("size", .int a)] → U [some (.int a), some (.ref L0), some (.ref K1), some (.ref L2), none] H') : ∀ σ' H', M_law_second_2 T a H σ' H' → U σ' H' := fun _ _ h => M_law_second_2.rec (motive := fun σ' H' _ => U σ' H') (fun {H'} => k H') h
inductive M_law_second_3 {K : PySem.W.Frag} {mg : Str → Option Value} (T : Tx K mg) (a : Int) (H : Hp) : L2.St → Hp → Prop
  | mk {H' : Hp} (L0 K3 L2 e1 d1 e2 d2 e3 d3 e4 d4 e5 d5 e6 d6 e7 d7 e8 d8 e9 d9 e10 d10 e11 d11 e12 d12 e13 d13 e14 d14 e15 d15 e16 d16 : Addr) : Same H H' → H' L0 = some (.lst [.ref e1, .ref e2, .ref e3, .ref e4, .ref e5, .ref e6, .ref e7, .ref e8, .ref e9]) → H' K3 = some (.lst [.int a, .int a, .int a, .int a, .int a, .int a, .int a, .int a, .int a, .int a, .int a, .int a, .int a, .int a, .int a, .int a]) → H' L2 = some (.lst [.ref e10, .ref e11, .ref e12, .ref e13, .ref e14, .ref e15, .ref e16]) → ErAt H' e1 d1 T.c_BadTold.C [("index", .int a)] → ErAt H' e2 d2 T.c_BadNames.C [("index", .int a)] → ErAt H' e3 d3 T.c_NotKnown.C [("name", .int a)] → ErAt H' e4 d4 T.c_NotMade.C [("name", .int a)] → ErAt H' e5 d5 T.c_NotLeft.C [("worth", .int a)] → ErAt H' e6 d6 T.c_NoKey.C [("filling", .int a)] → ErAt H' e7 d7 T.c_BadCustom.C [("custom", .int a)] → ErAt H' e8 d8 T.c_BadWish.C [("what", .int a)] → ErAt H' e9 d9 T.c_NotOneBox.C [("what", .int a)] → ErAt H' e10 d10 T.c_BadHand.C [("hand", .int a)] → ErAt H' e11 d11 T.c_BadLetter.C [("letter", .int a)] → ErAt H' e12 d12 T.c_BadExchange.C [("what", .int a)] → ErAt H' e13 d13 T.c_BadDay.C [("day", .int a)] → ErAt H' e14 d14 T.c_NoDayStory.C [("number", .int a)] → ErAt H' e15 d15 T.c_BadRound.C [("what", .int a)] → ErAt H' e16 d16 T.c_OtherLetters.C [("size", .int a)] → M_law_second_3 T a H [some (.int a), some (.ref L0), some (.ref K3), some (.ref L2), none] H'
theorem el_law_second_3 (T : Tx K mg) {a : Int} {H : Hp} {U : L2.St → Hp → Prop} (k : ∀ (H' : Hp) (L0 K3 L2 e1 d1 e2 d2 e3 d3 e4 d4 e5 d5 e6 d6 e7 d7 e8 d8 e9 d9 e10 d10 e11 d11 e12 d12 e13 d13 e14 d14 e15 d15 e16 d16 : Addr), Same H H' → H' L0 = some (.lst [.ref e1, .ref e2, .ref e3, .ref e4, .ref e5, .ref e6, .ref e7, .ref e8, .ref e9]) → H' K3 = some (.lst [.int a, .int a, .int a, .int a, .int a, .int a, .int a, .int a, .int a, .int a, .int a, .int a, .int a, .int a, .int a, .int a]) → H' L2 = some (.lst [.ref e10, .ref e11, .ref e12, .ref e13, .ref e14, .ref e15, .ref e16]) → ErAt H' e1 d1 T.c_BadTold.C [("index", .int a)] → ErAt H' e2 d2 T.c_BadNames.C [("index", .int a)] → ErAt H' e3 d3 T.c_NotKnown.C [("name", .int a)] → ErAt H' e4 d4 T.c_NotMade.C [("name", .int a)] → ErAt H' e5 d5 T.c_NotLeft.C [("worth", .int a)] → ErAt H' e6 d6 T.c_NoKey.C [("filling", .int a)] → ErAt H' e7 d7 T.c_BadCustom.C [("custom", .int a)] → ErAt H' e8 d8 T.c_BadWish.C [("what", .int a)] → ErAt H' e9 d9 T.c_NotOneBox.C [("what", .int a)] → ErAt H' e10 d10 T.c_BadHand.C [("hand", .int a)] → ErAt H' e11 d11 T.c_BadLetter.C [("letter", .int a)] → ErAt H' e12 d12 T.c_BadExchange.C [("what", .int a)] → ErAt H' e13 d13 T.c_BadDay.C [("day", .int a)] → ErAt H' e14 d14 T.c_NoDayStory.C [("number", .int a)] → ErAt H' e15 d15 T.c_BadRound.C [("what", .int a)] → ErAt H' e16 d16 T.c_OtherLetters.C [("size", .int a)] → U [some (.int a), some (.ref L0), some (.ref K3), some (.ref L2), none] H') : ∀ σ' H', M_law_second_3 T a H σ' H' → U σ' H' := fun _ _ h => M_law_second_3.rec (motive := fun σ' H' _ => U σ' H') (fun {H'} => k H') h
inductive M_law_second_4 {K : PySem.W.Frag} {mg : Str → Option Value} (T : Tx K mg) (a : Int) (H : Hp) : L2.St → Hp → Prop
  | mk {H' : Hp} (L0 K3 L2 L4 e1 d1 e2 d2 e3 d3 e4 d4 e5 d5 e6 d6 e7 d7 e8 d8 e9 d9 e10 d10 e11 d11 e12 d12 e13 d13 e14 d14 e15 d15 e16 d16 e17 d17 e18 d18 e19 d19 e20 d20 e21 d21 e22 d22 : Addr) : Same H H' → H' L0 = some (.lst [.ref e1, .ref e2, .ref e3, .ref e4, .ref e5, .ref e6, .ref e7, .ref e8, .ref e9]) → H' K3 = some (.lst [.int a, .int a, .int a, .int a, .int a, .int a, .int a, .int a, .int a, .int a, .int a, .int a, .int a, .int a, .int a, .int a]) → H' L2 = some (.lst [.ref e10, .ref e11, .ref e12, .ref e13, .ref e14, .ref e15, .ref e16]) → H' L4 = some (.lst [.ref e17, .ref e18, .ref e19, .ref e20, .ref e21, .ref e22]) → ErAt H' e1 d1 T.c_BadTold.C [("index", .int a)] → ErAt H' e2 d2 T.c_BadNames.C [("index", .int a)] → ErAt H' e3 d3 T.c_NotKnown.C [("name", .int a)] → ErAt H' e4 d4 T.c_NotMade.C [("name", .int a)] → ErAt H' e5 d5 T.c_NotLeft.C [("worth", .int a)] → ErAt H' e6 d6 T.c_NoKey.C [("filling", .int a)] → ErAt H' e7 d7 T.c_BadCustom.C [("custom", .int a)] → ErAt H' e8 d8 T.c_BadWish.C [("what", .int a)] → ErAt H' e9 d9 T.c_NotOneBox.C [("what", .int a)] → ErAt H' e10 d10 T.c_BadHand.C [("hand", .int a)] → ErAt H' e11 d11 T.c_BadLetter.C [("letter", .int a)] → ErAt H' e12 d12 T.c_BadExchange.C [("what", .int a)] → ErAt H' e13 d13 T.c_BadDay.C [("day", .int a)] → ErAt H' e14 d14 T.c_NoDayStory.C [("number", .int a)] → ErAt H' e15 d15 T.c_BadRound.C [("what", .int a)] → ErAt H' e16 d16 T.c_OtherLetters.C [("size", .int a)] → ErAt H' e17 d17 T.c_NotIn.C [("name", .int a)] → ErAt H' e18 d18 T.c_BadManner.C [("manner", .int a)] → ErAt H' e19 d19 T.c_BadPool.C [("index", .int a)] → ErAt H' e20 d20 T.c_BadGoal.C [("what", .int a)] → ErAt H' e21 d21 T.c_NothingLeft.C [("many", .int a)] → ErAt H' e22 d22 T.c_StillTrial.C [("deeds", .int a)] → M_law_second_4 T a H [some (.int a), some (.ref L0), some (.ref K3), some (.ref L2), some (.ref L4)] H'
theorem el_law_second_4 (T : Tx K mg) {a : Int} {H : Hp} {U : L2.St → Hp → Prop} (k : ∀ (H' : Hp) (L0 K3 L2 L4 e1 d1 e2 d2 e3 d3 e4 d4 e5 d5 e6 d6 e7 d7 e8 d8 e9 d9 e10 d10 e11 d11 e12 d12 e13 d13 e14 d14 e15 d15 e16 d16 e17 d17 e18 d18 e19 d19 e20 d20 e21 d21 e22 d22 : Addr), Same H H' → H' L0 = some (.lst [.ref e1, .ref e2, .ref e3, .ref e4, .ref e5, .ref e6, .ref e7, .ref e8, .ref e9]) → H' K3 = some (.lst [.int a, .int a, .int a, .int a, .int a, .int a, .int a, .int a, .int a, .int a, .int a, .int a, .int a, .int a, .int a, .int a]) → H' L2 = some (.lst [.ref e10, .ref e11, .ref e12, .ref e13, .ref e14, .ref e15, .ref e16]) → H' L4 = some (.lst [.ref e17, .ref e18, .ref e19, .ref e20, .ref e21, .ref e22]) → ErAt H' e1 d1 T.c_BadTold.C [("index", .int a)] → ErAt H' e2 d2 T.c_BadNames.C [("index", .int a)] → ErAt H' e3 d3 T.c_NotKnown.C [("name", .int a)] → ErAt H' e4 d4 T.c_NotMade.C [("name", .int a)] → ErAt H' e5 d5 T.c_NotLeft.C [("worth", .int a)] → ErAt H' e6 d6 T.c_NoKey.C [("filling", .int a)] → ErAt H' e7 d7 T.c_BadCustom.C [("custom", .int a)] → ErAt H' e8 d8 T.c_BadWish.C [("what", .int a)] → ErAt H' e9 d9 T.c_NotOneBox.C [("what", .int a)] → ErAt H' e10 d10 T.c_BadHand.C [("hand", .int a)] → ErAt H' e11 d11 T.c_BadLetter.C [("letter", .int a)] → ErAt H' e12 d12 T.c_BadExchange.C [("what", .int a)] → ErAt H' e13 d13 T.c_BadDay.C [("day", .int a)] → ErAt H' e14 d14 T.c_NoDayStory.C [("number", .int a)] → ErAt H' e15 d15 T.c_BadRound.C [("what", .int a)] → ErAt H' e16 d16 T.c_OtherLetters.C [("size", .int a)] → ErAt H' e17 d17 T.c_NotIn.C [("name", .int a)] → ErAt H' e18 d18 T.c_BadManner.C [("manner", .int a)] → ErAt H' e19 d19 T.c_BadPool.C [("index", .int a)] → ErAt H' e20 d20 T.c_BadGoal.C [("what", .int a)] → ErAt H' e21 d21 T.c_NothingLeft.C [("many", .int a)] → ErAt H' e22 d22 T.c_StillTrial.C [("deeds", .int a)] → U [some (.int a), some (.ref L0), some (.ref K3), some (.ref L2), some (.ref L4)] H') : ∀ σ' H', M_law_second_4 T a H σ' H' → U σ' H' := fun _ _ h => M_law_second_4.rec (motive := fun σ' H' _ => U σ' H') (fun {H'} => k H') h
inductive M_law_second_5 {K : PySem.W.Frag} {mg : Str → Option Value} (T : Tx K mg) (a : Int) (H : Hp) : L2.St → Hp → Prop
  | mk {H' : Hp} (L0 K5 L2 L4 e1 d1 e2 d2 e3 d3 e4 d4 e5 d5 e6 d6 e7 d7 e8 d8 e9 d9 e10 d10 e11 d11 e12 d12 e13 d13 e14 d14 e15 d15 e16 d16 e17 d17 e18 d18 e19 d19 e20 d20 e21 d21 e22 d22 : Addr) : Same H H' → H' L0 = some (.lst [.ref e1, .ref e2, .ref e3, .ref e4, .ref e5, .ref e6, .ref e7, .ref e8, .ref e9]) → H' K5 = some (.lst [.int a, .int a, .int a, .int a, .int a, .int a, .int a, .int a, .int a, .int a, .int a, .int a, .int a, .int a, .int a, .int a, .int a, .int a, .int a, .int a, .int a, .int a]) → H' L2 = some (.lst [.ref e10, .ref e11, .ref e12, .ref e13, .ref e14, .ref e15, .ref e16]) → H' L4 = some (.lst [.ref e17, .ref e18, .ref e19, .ref e20, .ref e21, .ref e22]) → ErAt H' e1 d1 T.c_BadTold.C [("index", .int a)] → ErAt H' e2 d2 T.c_BadNames.C [("index", .int a)] → ErAt H' e3 d3 T.c_NotKnown.C [("name", .int a)] → ErAt H' e4 d4 T.c_NotMade.C [("name", .int a)] → ErAt H' e5 d5 T.c_NotLeft.C [("worth", .int a)] → ErAt H' e6 d6 T.c_NoKey.C [("filling", .int a)] → ErAt H' e7 d7 T.c_BadCustom.C [("custom", .int a)] → ErAt H' e8 d8 T.c_BadWish.C [("what", .int a)] → ErAt H' e9 d9 T.c_NotOneBox.C [("what", .int a)] → ErAt H' e10 d10 T.c_BadHand.C [("hand", .int a)] → ErAt H' e11 d11 T.c_BadLetter.C [("letter", .int a)] → ErAt H' e12 d12 T.c_BadExchange.C [("what", .int a)] → ErAt H' e13 d13 T.c_BadDay.C [("day", .int a)] → ErAt H' e14 d14 T.c_NoDayStory.C [("number", .int a)] → ErAt H' e15 d15 T.c_BadRound.C [("what", .int a)] → ErAt H' e16 d16 T.c_OtherLetters.C [("size", .int a)] → ErAt H' e17 d17 T.c_NotIn.C [("name", .int a)] → ErAt H' e18 d18 T.c_BadManner.C [("manner", .int a)] → ErAt H' e19 d19 T.c_BadPool.C [("index", .int a)] → ErAt H' e20 d20 T.c_BadGoal.C [("what", .int a)] → ErAt H' e21 d21 T.c_NothingLeft.C [("many", .int a)] → ErAt H' e22 d22 T.c_StillTrial.C [("deeds", .int a)] → M_law_second_5 T a H [some (.int a), some (.ref L0), some (.ref K5), some (.ref L2), some (.ref L4)] H'
theorem el_law_second_5 (T : Tx K mg) {a : Int} {H : Hp} {U : L2.St → Hp → Prop} (k : ∀ (H' : Hp) (L0 K5 L2 L4 e1 d1 e2 d2 e3 d3 e4 d4 e5 d5 e6 d6 e7 d7 e8 d8 e9 d9 e10 d10 e11 d11 e12 d12 e13 d13 e14 d14 e15 d15 e16 d16 e17 d17 e18 d18 e19 d19 e20 d20 e21 d21 e22 d22 : Addr), Same H H' → H' L0 = some (.lst [.ref e1, .ref e2, .ref e3, .ref e4, .ref e5, .ref e6, .ref e7, .ref e8, .ref e9]) → H' K5 = some (.lst [.int a, .int a, .int a, .int a, .int a, .int a, .int a, .int a, .int a, .int a, .int a, .int a, .int a, .int a, .int a, .int a, .int a, .int a, .int a, .int a, .int a, .int a]) → H' L2 = some (.lst [.ref e10, .ref e11, .ref e12, .ref e13, .ref e14, .ref e15, .ref e16]) → H' L4 = some (.lst [.ref e17, .ref e18, .ref e19, .ref e20, .ref e21, .ref e22]) → ErAt H' e1 d1 T.c_BadTold.C [("index", .int a)] → ErAt H' e2 d2 T.c_BadNames.C [("index", .int a)] → ErAt H' e3 d3 T.c_NotKnown.C [("name", .int a)] → ErAt H' e4 d4 T.c_NotMade.C [("name", .int a)] → ErAt H' e5 d5 T.c_NotLeft.C [("worth", .int a)] → ErAt H' e6 d6 T.c_NoKey.C [("filling", .int a)] → ErAt H' e7 d7 T.c_BadCustom.C [("custom", .int a)] → ErAt H' e8 d8 T.c_BadWish.C [("what", .int a)] → ErAt H' e9 d9 T.c_NotOneBox.C [("what", .int a)] → ErAt H' e10 d10 T.c_BadHand.C [("hand", .int a)] → ErAt H' e11 d11 T.c_BadLetter.C [("letter", .int a)] → ErAt H' e12 d12 T.c_BadExchange.C [("what", .int a)] → ErAt H' e13 d13 T.c_BadDay.C [("day", .int a)] → ErAt H' e14 d14 T.c_NoDayStory.C [("number", .int a)] → ErAt H' e15 d15 T.c_BadRound.C [("what", .int a)] → ErAt H' e16 d16 T.c_OtherLetters.C [("size", .int a)] → ErAt H' e17 d17 T.c_NotIn.C [("name", .int a)] → ErAt H' e18 d18 T.c_BadManner.C [("manner", .int a)] → ErAt H' e19 d19 T.c_BadPool.C [("index", .int a)] → ErAt H' e20 d20 T.c_BadGoal.C [("what", .int a)] → ErAt H' e21 d21 T.c_NothingLeft.C [("many", .int a)] → ErAt H' e22 d22 T.c_StillTrial.C [("deeds", .int a)] → U [some (.int a), some (.ref L0), some (.ref K5), some (.ref L2), some (.ref L4)] H') : ∀ σ' H', M_law_second_5 T a H σ' H' → U σ' H' := fun _ _ h => M_law_second_5.rec (motive := fun σ' H' _ => U σ' H') (fun {H'} => k H') h
theorem ok_law_second (T : Tx K mg) : FnOk P w K mg base CX0 3 T.law_second.f T.law_second.fd ["_law_a"] (spMk K T.LE T.D_law_second 1 ok1) := by
  refine T.law_second.F.ok sc_law_second (fun vs H Q E h => h.1) (fun cdv A outer s H vs Q E hr h => ?_)
  · obtain ⟨hl, hi, k⟩ := h
    obtain ⟨a, rfl⟩ : ∃ a, vs = [V.int a] := by
      match vs, hl with
      | [x], _ =>
        obtain ⟨a, rfl⟩ := hi x (by simp)
        exact ⟨a, rfl⟩
    refine ⟨_, (cut (ps_set (i := 1) sc_law_second.nd rfl (Or.inl rfl) (pe_lst (pa_cons (pe_m1 T.c_BadTold (hr.mono (by decide)) (by rfl) (pv 0) (mono_var 0)) (pa_cons (pe_m1 T.c_BadNames (hr.mono (by decide)) (by rfl) (pv 0) (mono_var 0)) (pa_cons (pe_m1 T.c_NotKnown (hr.mono (by decide)) (by rfl) (pv 0) (mono_var 0)) (pa_cons (pe_m1 T.c_NotMade (hr.mono (by decide)) (by rfl) (pv 0) (mono_var 0)) (pa_cons (pe_m1 T.c_NotLeft (hr.mono (by decide)) (by rfl) (pv 0) (mono_var 0)) (pa_cons (pe_m1 T.c_NoKey (hr.mono (by decide)) (by rfl) (pv 0) (mono_var 0)) (pa_cons (pe_m1 T.c_BadCustom (hr.mono (by decide)) (by rfl) (pv 0) (mono_var 0)) (pa_cons (pe_m1 T.c_BadWish (hr.mono (by decide)) (by rfl) (pv 0) (mono_var 0)) (pa_cons (pe_m1 T.c_NotOneBox (hr.mono (by decide)) (by rfl) (pv 0) (mono_var 0)) pa_nil)))))))))))
  (cut (ps_set (i := 2) sc_law_second.nd rfl (Or.inl rfl) (pe_lst (pa_cons (pe_fldE (pe_ix ix_list (pv 1) pe_int (fun _ _ => rfl))) (pa_cons (pe_fldE (pe_ix ix_list (pv 1) pe_int (fun _ _ => rfl))) (pa_cons (pe_fldE (pe_ix ix_list (pv 1) pe_int (fun _ _ => rfl))) (pa_cons (pe_fldE (pe_ix ix_list (pv 1) pe_int (fun _ _ => rfl))) (pa_cons (pe_fldE (pe_ix ix_list (pv 1) pe_int (fun _ _ => rfl))) (pa_cons (pe_fldE (pe_ix ix_list (pv 1) pe_int (fun _ _ => rfl))) (pa_cons (pe_fldE (pe_ix ix_list (pv 1) pe_int (fun _ _ => rfl))) (pa_cons (pe_fldE (pe_ix ix_list (pv 1) pe_int (fun _ _ => rfl))) (pa_cons (pe_fldE (pe_ix ix_list (pv 1) pe_int (fun _ _ => rfl))) pa_nil)))))))))))
  (cut (ps_set (i := 3) sc_law_second.nd rfl (Or.inl rfl) (pe_lst (pa_cons (pe_m1 T.c_BadHand (hr.mono (by decide)) (by rfl) (pv 0) (mono_var 0)) (pa_cons (pe_m1 T.c_BadLetter (hr.mono (by decide)) (by rfl) (pv 0) (mono_var 0)) (pa_cons (pe_m1 T.c_BadExchange (hr.mono (by decide)) (by rfl) (pv 0) (mono_var 0)) (pa_cons (pe_m1 T.c_BadDay (hr.mono (by decide)) (by rfl) (pv 0) (mono_var 0)) (pa_cons (pe_m1 T.c_NoDayStory (hr.mono (by decide)) (by rfl) (pv 0) (mono_var 0)) (pa_cons (pe_m1 T.c_BadRound (hr.mono (by decide)) (by rfl) (pv 0) (mono_var 0)) (pa_cons (pe_m1 T.c_OtherLetters (hr.mono (by decide)) (by rfl) (pv 0) (mono_var 0)) pa_nil)))))))))
  (cut (ps_set (i := 2) sc_law_second.nd rfl (Or.inl rfl) (pe_op op_cat (pv 2) (pe_lst (pa_cons (pe_fldE (pe_ix ix_list (pv 3) pe_int (fun _ _ => rfl))) (pa_cons (pe_fldE (pe_ix ix_list (pv 3) pe_int (fun _ _ => rfl))) (pa_cons (pe_fldE (pe_ix ix_list (pv 3) pe_int (fun _ _ => rfl))) (pa_cons (pe_fldE (pe_ix ix_list (pv 3) pe_int (fun _ _ => rfl))) (pa_cons (pe_fldE (pe_ix ix_list (pv 3) pe_int (fun _ _ => rfl))) (pa_cons (pe_fldE (pe_ix ix_list (pv 3) pe_int (fun _ _ => rfl))) (pa_cons (pe_fldE (pe_ix ix_list (pv 3) pe_int (fun _ _ => rfl))) pa_nil))))))))))
  (cut (ps_set (i := 4) sc_law_second.nd rfl (Or.inl rfl) (pe_lst (pa_cons (pe_m1 T.c_NotIn (hr.mono (by decide)) (by rfl) (pv 0) (mono_var 0)) (pa_cons (pe_m1 T.c_BadManner (hr.mono (by decide)) (by rfl) (pv 0) (mono_var 0)) (pa_cons (pe_m1 T.c_BadPool (hr.mono (by decide)) (by rfl) (pv 0) (mono_var 0)) (pa_cons (pe_m1 T.c_BadGoal (hr.mono (by decide)) (by rfl) (pv 0) (mono_var 0)) (pa_cons (pe_m1 T.c_NothingLeft (hr.mono (by decide)) (by rfl) (pv 0) (mono_var 0)) (pa_cons (pe_m1 T.c_StillTrial (hr.mono (by decide)) (by rfl) (pv 0) (mono_var 0)) pa_nil))))))))
  (cut (ps_set (i := 2) sc_law_second.nd rfl (Or.inl rfl) (pe_op op_cat (pv 2) (pe_lst (pa_cons (pe_fldE (pe_ix ix_list (pv 4) pe_int (fun _ _ => rfl))) (pa_cons (pe_fldE (pe_ix ix_list (pv 4) pe_int (fun _ _ => rfl))) (pa_cons (pe_fldE (pe_ix ix_list (pv 4) pe_int (fun _ _ => rfl))) (pa_cons (pe_fldE (pe_ix ix_list (pv 4) pe_int (fun _ _ => rfl))) (pa_cons (pe_fldE (pe_ix ix_list (pv 4) pe_int (fun _ _ => rfl))) (pa_cons (pe_fldE (pe_ix ix_list (pv 4) pe_int (fun _ _ => rfl))) pa_nil)))))))))
  (pss_one (ps_ret (pe_lst (pa_cons (pe_op op_cat (pe_op op_cat (pv 1) (pv 3)) (pv 4)) (pa_cons (pv 2) pa_nil))))))))))), ?_⟩
    refine ⟨M_law_second_0 T a H, ?_, ?_⟩
    · refine ⟨_, rfl, fun e1 G1 m1 => ⟨_, rfl, fun e2 G2 m2 => ⟨_, rfl, fun e3 G3 m3 => ⟨_, rfl, fun e4 G4 m4 => ⟨_, rfl, fun e5 G5 m5 => ⟨_, rfl, fun e6 G6 m6 => ⟨_, rfl, fun e7 G7 m7 => ⟨_, rfl, fun e8 G8 m8 => ⟨_, rfl, fun e9 G9 m9 => ⟨(by show 9 ≤ sizeLine; decide), fun L0 nL0 => ?_⟩⟩⟩⟩⟩⟩⟩⟩⟩⟩
      obtain ⟨q1, _, d1, x1, y1⟩ := m1
      obtain ⟨q2, _, d2, x2, y2⟩ := m2
      obtain ⟨q3, _, d3, x3, y3⟩ := m3
      obtain ⟨q4, _, d4, x4, y4⟩ := m4
      obtain ⟨q5, _, d5, x5, y5⟩ := m5
      obtain ⟨q6, _, d6, x6, y6⟩ := m6
      obtain ⟨q7, _, d7, x7, y7⟩ := m7
      obtain ⟨q8, _, d8, x8, y8⟩ := m8
      obtain ⟨q9, _, d9, x9, y9⟩ := m9
      have z9 : Same G9 (upd G9 L0 (.lst [.ref e1, .ref e2, .ref e3, .ref e4, .ref e5, .ref e6, .ref e7, .ref e8, .ref e9])) := same_new nL0
      have z8 := q9.trans z9
      have z7 := q8.trans z8
      have z6 := q7.trans z7
      have z5 := q6.trans z6
      have z4 := q5.trans z5
      have z3 := q4.trans z4
      have z2 := q3.trans z3
      have z1 := q2.trans z2
      have z0 := q1.trans z1
      exact ⟨_, _, _, _, _, _, _, _, _, _, _, _, _, _, _, _, _, _, _, z0, upd_same, ⟨z1 _ _ x1, z1 _ _ y1⟩, ⟨z2 _ _ x2, z2 _ _ y2⟩, ⟨z3 _ _ x3, z3 _ _ y3⟩, ⟨z4 _ _ x4, z4 _ _ y4⟩, ⟨z5 _ _ x5, z5 _ _ y5⟩, ⟨z6 _ _ x6, z6 _ _ y6⟩, ⟨z7 _ _ x7, z7 _ _ y7⟩, ⟨z8 _ _ x8, z8 _ _ y8⟩, ⟨z9 _ _ x9, z9 _ _ y9⟩⟩
    refine el_law_second_0 T ?_
    intro H0 L0 e1 d1 e2 d2 e3 d3 e4 d4 e5 d5 e6 d6 e7 d7 e8 d8 e9 d9 S l_L0 r_e1 r_e2 r_e3 r_e4 r_e5 r_e6 r_e7 r_e8 r_e9
    refine ⟨M_law_second_1 T a H, ?_, ?_⟩
    · refine ⟨_, rfl, L0, _, 0, _, rfl, rfl, SqL.of l_L0, atI_nat rfl, e1, _, d1, _, _, rfl, r_e1.1, T.c_BadTold.T, T.c_BadTold.nf, r_e1.2, lk1, _, rfl, L0, _, 1, _, rfl, rfl, SqL.of l_L0, atI_nat rfl, e2, _, d2, _, _, rfl, r_e2.1, T.c_BadNames.T, T.c_BadNames.nf, r_e2.2, lk1, _, rfl, L0, _, 2, _, rfl, rfl, SqL.of l_L0, atI_nat rfl, e3, _, d3, _, _, rfl, r_e3.1, T.c_NotKnown.T, T.c_NotKnown.nf, r_e3.2, lk1, _, rfl, L0, _, 3, _, rfl, rfl, SqL.of l_L0, atI_nat rfl, e4, _, d4, _, _, rfl, r_e4.1, T.c_NotMade.T, T.c_NotMade.nf, r_e4.2, lk1, _, rfl, L0, _, 4, _, rfl, rfl, SqL.of l_L0, atI_nat rfl, e5, _, d5, _, _, rfl, r_e5.1, T.c_NotLeft.T, T.c_NotLeft.nf, r_e5.2, lk1, _, rfl, L0, _, 5, _, rfl, rfl, SqL.of l_L0, atI_nat rfl, e6, _, d6, _, _, rfl, r_e6.1, T.c_NoKey.T, T.c_NoKey.nf, r_e6.2, lk1, _, rfl, L0, _, 6, _, rfl, rfl, SqL.of l_L0, atI_nat rfl, e7, _, d7, _, _, rfl, r_e7.1, T.c_BadCustom.T, T.c_BadCustom.nf, r_e7.2, lk1, _, rfl, L0, _, 7, _, rfl, rfl, SqL.of l_L0, atI_nat rfl, e8, _, d8, _, _, rfl, r_e8.1, T.c_BadWish.T, T.c_BadWish.nf, r_e8.2, lk1, _, rfl, L0, _, 8, _, rfl, rfl, SqL.of l_L0, atI_nat rfl, e9, _, d9, _, _, rfl, r_e9.1, T.c_NotOneBox.T, T.c_NotOneBox.nf, r_e9.2, lk1, (by show 9 ≤ sizeLine; decide), fun K1 nK1 => ?_⟩
      have W := same_new (o := .lst [.int a, .int a, .int a, .int a, .int a, .int a, .int a, .int a, .int a]) nK1
      exact ⟨_, _, _, _, _, _, _, _, _, _, _, _, _, _, _, _, _, _, _, _, S.trans W, (W _ _ l_L0), upd_same, (r_e1.same W), (r_e2.same W), (r_e3.same W), (r_e4.same W), (r_e5.same W), (r_e6.same W), (r_e7.same W), (r_e8.same W), (r_e9.same W)⟩
    refine el_law_second_1 T ?_
    intro H1 L0 K1 e1 d1 e2 d2 e3 d3 e4 d4 e5 d5 e6 d6 e7 d7 e8 d8 e9 d9 S l_L0 l_K1 r_e1 r_e2 r_e3 r_e4 r_e5 r_e6 r_e7 r_e8 r_e9
    refine ⟨M_law_second_2 T a H, ?_, ?_⟩
    · refine ⟨_, rfl, fun e10 G10 m10 => ⟨_, rfl, fun e11 G11 m11 => ⟨_, rfl, fun e12 G12 m12 => ⟨_, rfl, fun e13 G13 m13 => ⟨_, rfl, fun e14 G14 m14 => ⟨_, rfl, fun e15 G15 m15 => ⟨_, rfl, fun e16 G16 m16 => ⟨(by show 7 ≤ sizeLine; decide), fun L2 nL2 => ?_⟩⟩⟩⟩⟩⟩⟩⟩
      obtain ⟨q10, _, d10, x10, y10⟩ := m10
      obtain ⟨q11, _, d11, x11, y11⟩ := m11
      obtain ⟨q12, _, d12, x12, y12⟩ := m12
      obtain ⟨q13, _, d13, x13, y13⟩ := m13
      obtain ⟨q14, _, d14, x14, y14⟩ := m14
      obtain ⟨q15, _, d15, x15, y15⟩ := m15
      obtain ⟨q16, _, d16, x16, y16⟩ := m16
      have z16 : Same G16 (upd G16 L2 (.lst [.ref e10, .ref e11, .ref e12, .ref e13, .ref e14, .ref e15, .ref e16])) := same_new nL2
      have z15 := q16.trans z16
      have z14 := q15.trans z15
      have z13 := q14.trans z14
      have z12 := q13.trans z13
      have z11 := q12.trans z12
      have z10 := q11.trans z11
      have z0 := q10.trans z10
      exact ⟨_, _, _, _, _, _, _, _, _, _, _, _, _, _, _, _, _, _, _, _, _, _, _, _, _, _, _, _, _, _, _, _, _, _, _, S.trans z0, (z0 _ _ l_L0), (z0 _ _ l_K1), upd_same, (r_e1.same z0), (r_e2.same z0), (r_e3.same z0), (r_e4.same z0), (r_e5.same z0), (r_e6.same z0), (r_e7.same z0), (r_e8.same z0), (r_e9.same z0), ⟨z10 _ _ x10, z10 _ _ y10⟩, ⟨z11 _ _ x11, z11 _ _ y11⟩, ⟨z12 _ _ x12, z12 _ _ y12⟩, ⟨z13 _ _ x13, z13 _ _ y13⟩, ⟨z14 _ _ x14, z14 _ _ y14⟩, ⟨z15 _ _ x15, z15 _ _ y15⟩, ⟨z16 _ _ x16, z16 _ _ y16⟩⟩
    refine el_law_second_2 T ?_
    intro H2 L0 K1 L2 e1 d1 e2 d2 e3 d3 e4 d4 e5 d5 e6 d6 e7 d7 e8 d8 e9 d9 e10 d10 e11 d11 e12 d12 e13 d13 e14 d14 e15 d15 e16 d16 S l_L0 l_K1 l_L2 r_e1 r_e2 r_e3 r_e4 r_e5 r_e6 r_e7 r_e8 r_e9 r_e10 r_e11 r_e12 r_e13 r_e14 r_e15 r_e16
    refine ⟨M_law_second_3 T a H, ?_, ?_⟩
    · refine ⟨_, rfl, _, rfl, L2, _, 0, _, rfl, rfl, SqL.of l_L2, atI_nat rfl, e10, _, d10, _, _, rfl, r_e10.1, T.c_BadHand.T, T.c_BadHand.nf, r_e10.2, lk1, _, rfl, L2, _, 1, _, rfl, rfl, SqL.of l_L2, atI_nat rfl, e11, _, d11, _, _, rfl, r_e11.1, T.c_BadLetter.T, T.c_BadLetter.nf, r_e11.2, lk1, _, rfl, L2, _, 2, _, rfl, rfl, SqL.of l_L2, atI_nat rfl, e12, _, d12, _, _, rfl, r_e12.1, T.c_BadExchange.T, T.c_BadExchange.nf, r_e12.2, lk1, _, rfl, L2, _, 3, _, rfl, rfl, SqL.of l_L2, atI_nat rfl, e13, _, d13, _, _, rfl, r_e13.1, T.c_BadDay.T, T.c_BadDay.nf, r_e13.2, lk1, _, rfl, L2, _, 4, _, rfl, rfl, SqL.of l_L2, atI_nat rfl, e14, _, d14, _, _, rfl, r_e14.1, T.c_NoDayStory.T, T.c_NoDayStory.nf, r_e14.2, lk1, _, rfl, L2, _, 5, _, rfl, rfl, SqL.of l_L2, atI_nat rfl, e15, _, d15, _, _, rfl, r_e15.1, T.c_BadRound.T, T.c_BadRound.nf, r_e15.2, lk1, _, rfl, L2, _, 6, _, rfl, rfl, SqL.of l_L2, atI_nat rfl, e16, _, d16, _, _, rfl, r_e16.1, T.c_OtherLetters.T, T.c_OtherLetters.nf, r_e16.2, lk1, (by show 7 ≤ sizeLine; decide), fun M nM => ?_⟩
      have v0 := same_new (o := .lst [.int a, .int a, .int a, .int a, .int a, .int a, .int a]) nM
      refine ⟨K1, M, _, _, rfl, rfl, v0 _ _ l_K1, upd_same, (by show 9 + 7 ≤ sizeLine; decide), fun K3 nK3 => ?_⟩
      have W := v0.trans (same_new (o := .lst [.int a, .int a, .int a, .int a, .int a, .int a, .int a, .int a, .int a, .int a, .int a, .int a, .int a, .int a, .int a, .int a]) nK3)
      exact ⟨_, _, _, _, _, _, _, _, _, _, _, _, _, _, _, _, _, _, _, _, _, _, _, _, _, _, _, _, _, _, _, _, _, _, _, S.trans W, (W _ _ l_L0), upd_same, (W _ _ l_L2), (r_e1.same W), (r_e2.same W), (r_e3.same W), (r_e4.same W), (r_e5.same W), (r_e6.same W), (r_e7.same W), (r_e8.same W), (r_e9.same W), (r_e10.same W), (r_e11.same W), (r_e12.same W), (r_e13.same W), (r_e14.same W), (r_e15.same W), (r_e16.same W)⟩
    refine el_law_second_3 T ?_
    intro H3 L0 K3 L2 e1 d1 e2 d2 e3 d3 e4 d4 e5 d5 e6 d6 e7 d7 e8 d8 e9 d9 e10 d10 e11 d11 e12 d12 e13 d13 e14 d14 e15 d15 e16 d16 S l_L0 l_K3 l_L2 r_e1 r_e2 r_e3 r_e4 r_e5 r_e6 r_e7 r_e8 r_e9 r_e10 r_e11 r_e12 r_e13 r_e14 r_e15 r_e16
    refine ⟨M_law_second_4 T a H, ?_, ?_⟩
    · refine ⟨_, rfl, fun e17 G17 m17 => ⟨_, rfl, fun e18 G18 m18 => ⟨_, rfl, fun e19 G19 m19 => ⟨_, rfl, fun e20 G20 m20 => ⟨_, rfl, fun e21 G21 m21 => ⟨_, rfl, fun e22 G22 m22 => ⟨(by show 6 ≤ sizeLine; decide), fun L4 nL4 => ?_⟩⟩⟩⟩⟩⟩⟩
      obtain ⟨q17, _, d17, x17, y17⟩ := m17
      obtain ⟨q18, _, d18, x18, y18⟩ := m18
      obtain ⟨q19, _, d19, x19, y19⟩ := m19
      obtain ⟨q20, _, d20, x20, y20⟩ := m20
      obtain ⟨q21, _, d21, x21, y21⟩ := m21
      obtain ⟨q22, _, d22, x22, y22⟩ := m22
      have z22 : Same G22 (upd G22 L4 (.lst [.ref e17, .ref e18, .ref e19, .ref e20, .ref e21, .ref e22])) := same_new nL4
      have z21 := q22.trans z22
      have z20 := q21.trans z21
      have z19 := q20.trans z20
      have z18 := q19.trans z19
      have z17 := q18.trans z18
      have z0 := q17.trans z17
      exact ⟨_, _, _, _, _, _, _, _, _, _, _, _, _, _, _, _, _, _, _, _, _, _, _, _, _, _, _, _, _, _, _, _, _, _, _, _, _, _, _, _, _, _, _, _, _, _, _, _, S.trans z0, (z0 _ _ l_L0), (z0 _ _ l_K3), (z0 _ _ l_L2), upd_same, (r_e1.same z0), (r_e2.same z0), (r_e3.same z0), (r_e4.same z0), (r_e5.same z0), (r_e6.same z0), (r_e7.same z0), (r_e8.same z0), (r_e9.same z0), (r_e10.same z0), (r_e11.same z0), (r_e12.same z0), (r_e13.same z0), (r_e14.same z0), (r_e15.same z0), (r_e16.same z0), ⟨z17 _ _ x17, z17 _ _ y17⟩, ⟨z18 _ _ x18, z18 _ _ y18⟩, ⟨z19 _ _ x19, z19 _ _ y19⟩, ⟨z20 _ _ x20, z20 _ _ y20⟩, ⟨z21 _ _ x21, z21 _ _ y21⟩, ⟨z22 _ _ x22, z22 _ _ y22⟩⟩
    refine el_law_second_4 T ?_
    intro H4 L0 K3 L2 L4 e1 d1 e2 d2 e3 d3 e4 d4 e5 d5 e6 d6 e7 d7 e8 d8 e9 d9 e10 d10 e11 d11 e12 d12 e13 d13 e14 d14 e15 d15 e16 d16 e17 d17 e18 d18 e19 d19 e20 d20 e21 d21 e22 d22 S l_L0 l_K3 l_L2 l_L4 r_e1 r_e2 r_e3 r_e4 r_e5 r_e6 r_e7 r_e8 r_e9 r_e10 r_e11 r_e12 r_e13 r_e14 r_e15 r_e16 r_e17 r_e18 r_e19 r_e20 r_e21 r_e22
    refine ⟨M_law_second_5 T a H, ?_, ?_⟩
    · refine ⟨_, rfl, _, rfl, L4, _, 0, _, rfl, rfl, SqL.of l_L4, atI_nat rfl, e17, _, d17, _, _, rfl, r_e17.1, T.c_NotIn.T, T.c_NotIn.nf, r_e17.2, lk1, _, rfl, L4, _, 1, _, rfl, rfl, SqL.of l_L4, atI_nat rfl, e18, _, d18, _, _, rfl, r_e18.1, T.c_BadManner.T, T.c_BadManner.nf, r_e18.2, lk1, _, rfl, L4, _, 2, _, rfl, rfl, SqL.of l_L4, atI_nat rfl, e19, _, d19, _, _, rfl, r_e19.1, T.c_BadPool.T, T.c_BadPool.nf, r_e19.2, lk1, _, rfl, L4, _, 3, _, rfl, rfl, SqL.of l_L4, atI_nat rfl, e20, _, d20, _, _, rfl, r_e20.1, T.c_BadGoal.T, T.c_BadGoal.nf, r_e20.2, lk1, _, rfl, L4, _, 4, _, rfl, rfl, SqL.of l_L4, atI_nat rfl, e21, _, d21, _, _, rfl, r_e21.1, T.c_NothingLeft.T, T.c_NothingLeft.nf, r_e21.2, lk1, _, rfl, L4, _, 5, _, rfl, rfl, SqL.of l_L4, atI_nat rfl, e22, _, d22, _, _, rfl, r_e22.1, T.c_StillTrial.T, T.c_StillTrial.nf, r_e22.2, lk1, (by show 6 ≤ sizeLine; decide), fun M nM => ?_⟩
      have v0 := same_new (o := .lst [.int a, .int a, .int a, .int a, .int a, .int a]) nM
      refine ⟨K3, M, _, _, rfl, rfl, v0 _ _ l_K3, upd_same, (by show 16 + 6 ≤ sizeLine; decide), fun K5 nK5 => ?_⟩
      have W := v0.trans (same_new (o := .lst [.int a, .int a, .int a, .int a, .int a, .int a, .int a, .int a, .int a, .int a, .int a, .int a, .int a, .int a, .int a, .int a, .int a, .int a, .int a, .int a, .int a, .int a]) nK5)
      exact ⟨_, _, _, _, _, _, _, _, _, _, _, _, _, _, _, _, _, _, _, _, _, _, _, _, _, _, _, _, _, _, _, _, _, _, _, _, _, _, _, _, _, _, _, _, _, _, _, _, S.trans W, (W _ _ l_L0), upd_same, (W _ _ l_L2), (W _ _ l_L4), (r_e1.same W), (r_e2.same W), (r_e3.same W), (r_e4.same W), (r_e5.same W), (r_e6.same W), (r_e7.same W), (r_e8.same W), (r_e9.same W), (r_e10.same W), (r_e11.same W), (r_e12.same W), (r_e13.same W), (r_e14.same W), (r_e15.same W), (r_e16.same W), (r_e17.same W), (r_e18.same W), (r_e19.same W), (r_e20.same W), (r_e21.same W), (r_e22.same W)⟩
    refine el_law_second_5 T ?_
    intro H5 L0 K5 L2 L4 e1 d1 e2 d2 e3 d3 e4 d4 e5 d5 e6 d6 e7 d7 e8 d8 e9 d9 e10 d10 e11 d11 e12 d12 e13 d13 e14 d14 e15 d15 e16 d16 e17 d17 e18 d18 e19 d19 e20 d20 e21 d21 e22 d22 S l_L0 l_K5 l_L2 l_L4 r_e1 r_e2 r_e3 r_e4 r_e5 r_e6 r_e7 r_e8 r_e9 r_e10 r_e11 r_e12 r_e13 r_e14 r_e15 r_e16 r_e17 r_e18 r_e19 r_e20 r_e21 r_e22
    have w0 : Same H5 H5 := Same.refl _
    refine ⟨_, rfl, _, rfl, L0, L2, _, _, rfl, rfl, w0 _ _ l_L0, w0 _ _ l_L2, (by show 9 + 7 ≤ sizeLine; decide), fun C0 nC0 => ?_⟩
    have v0 := same_new (o := .lst [.ref e1, .ref e2, .ref e3, .ref e4, .ref e5, .ref e6, .ref e7, .ref e8, .ref e9, .ref e10, .ref e11, .ref e12, .ref e13, .ref e14, .ref e15, .ref e16]) nC0
    have w1 := w0.trans v0
    refine ⟨_, rfl, C0, L4, _, _, rfl, rfl, upd_same, w1 _ _ l_L4, (by show 16 + 6 ≤ sizeLine; decide), fun C1 nC1 => ?_⟩
    have v1 := same_new (o := .lst [.ref e1, .ref e2, .ref e3, .ref e4, .ref e5, .ref e6, .ref e7, .ref e8, .ref e9, .ref e10, .ref e11, .ref e12, .ref e13, .ref e14, .ref e15, .ref e16, .ref e17, .ref e18, .ref e19, .ref e20, .ref e21, .ref e22]) nC1
    have w2 := w1.trans v1
    refine ⟨_, rfl, (by show 2 ≤ sizeLine; decide), fun R nR => ?_⟩
    have v2 := same_new (o := .lst [.ref C1, .ref K5]) nR
    have w3 := w2.trans v2
    refine k R C1 K5 [e1, e2, e3, e4, e5, e6, e7, e8, e9, e10, e11, e12, e13, e14, e15, e16, e17, e18, e19, e20, e21, e22] [.int a, .int a, .int a, .int a, .int a, .int a, .int a, .int a, .int a, .int a, .int a, .int a, .int a, .int a, .int a, .int a, .int a, .int a, .int a, .int a, .int a, .int a] _ (S.trans w3) upd_same (v2 _ _ upd_same) (w3 _ _ l_K5) rfl ?_ ?_
    · intro x hx
      simp only [List.mem_cons, List.not_mem_nil, or_false] at hx
      have : x = .int a := by rcases hx with rfl | rfl | rfl | rfl | rfl | rfl | rfl | rfl | rfl | rfl | rfl | rfl | rfl | rfl | rfl | rfl | rfl | rfl | rfl | rfl | rfl | rfl <;> rfl
      rw [this]; rfl
    · exact .cons ⟨.inl ⟨d1, _, (r_e1.same w3).1, (r_e1.same w3).2⟩, T.c_BadTold.T, _, _, T.m_BadTold, .inl rfl⟩ (.cons ⟨.inl ⟨d2, _, (r_e2.same w3).1, (r_e2.same w3).2⟩, T.c_BadNames.T, _, _, T.m_BadNames, .inl rfl⟩ (.cons ⟨.inl ⟨d3, _, (r_e3.same w3).1, (r_e3.same w3).2⟩, T.c_NotKnown.T, _, _, T.m_NotKnown, .inl rfl⟩ (.cons ⟨.inl ⟨d4, _, (r_e4.same w3).1, (r_e4.same w3).2⟩, T.c_NotMade.T, _, _, T.m_NotMade, .inl rfl⟩ (.cons ⟨.inl ⟨d5, _, (r_e5.same w3).1, (r_e5.same w3).2⟩, T.c_NotLeft.T, _, _, T.m_NotLeft, .inl rfl⟩ (.cons ⟨.inl ⟨d6, _, (r_e6.same w3).1, (r_e6.same w3).2⟩, T.c_NoKey.T, _, _, T.m_NoKey, .inl rfl⟩ (.cons ⟨.inl ⟨d7, _, (r_e7.same w3).1, (r_e7.same w3).2⟩, T.c_BadCustom.T, _, _, T.m_BadCustom, .inl rfl⟩ (.cons ⟨.inl ⟨d8, _, (r_e8.same w3).1, (r_e8.same w3).2⟩, T.c_BadWish.T, _, _, T.m_BadWish, .inl rfl⟩ (.cons ⟨.inl ⟨d9, _, (r_e9.same w3).1, (r_e9.same w3).2⟩, T.c_NotOneBox.T, _, _, T.m_NotOneBox, .inl rfl⟩ (.cons ⟨.inl ⟨d10, _, (r_e10.same w3).1, (r_e10.same w3).2⟩, T.c_BadHand.T, _, _, T.m_BadHand, .inl rfl⟩ (.cons ⟨.inl ⟨d11, _, (r_e11.same w3).1, (r_e11.same w3).2⟩, T.c_BadLetter.T, _, _, T.m_BadLetter, .inl rfl⟩ (.cons ⟨.inl ⟨d12, _, (r_e12.same w3).1, (r_e12.same w3).2⟩, T.c_BadExchange.T, _, _, T.m_BadExchange, .inl rfl⟩ (.cons ⟨.inl ⟨d13, _, (r_e13.same w3).1, (r_e13.same w3).2⟩, T.c_BadDay.T, _, _, T.m_BadDay, .inl rfl⟩ (.cons ⟨.inl ⟨d14, _, (r_e14.same w3).1, (r_e14.same w3).2⟩, T.c_NoDayStory.T, _, _, T.m_NoDayStory, .inl rfl⟩ (.cons ⟨.inl ⟨d15, _, (r_e15.same w3).1, (r_e15.same w3).2⟩, T.c_BadRound.T, _, _, T.m_BadRound, .inl rfl⟩ (.cons ⟨.inl ⟨d16, _, (r_e16.same w3).1, (r_e16.same w3).2⟩, T.c_OtherLetters.T, _, _, T.m_OtherLetters, .inl rfl⟩ (.cons ⟨.inl ⟨d17, _, (r_e17.same w3).1, (r_e17.same w3).2⟩, T.c_NotIn.T, _, _, T.m_NotIn, .inl rfl⟩ (.cons ⟨.inl ⟨d18, _, (r_e18.same w3).1, (r_e18.same w3).2⟩, T.c_BadManner.T, _, _, T.m_BadManner, .inl rfl⟩ (.cons ⟨.inl ⟨d19, _, (r_e19.same w3).1, (r_e19.same w3).2⟩, T.c_BadPool.T, _, _, T.m_BadPool, .inl rfl⟩ (.cons ⟨.inl ⟨d20, _, (r_e20.same w3).1, (r_e20.same w3).2⟩, T.c_BadGoal.T, _, _, T.m_BadGoal, .inl rfl⟩ (.cons ⟨.inl ⟨d21, _, (r_e21.same w3).1, (r_e21.same w3).2⟩, T.c_NothingLeft.T, _, _, T.m_NothingLeft, .inl rfl⟩ (.cons ⟨.inl ⟨d22, _, (r_e22.same w3).1, (r_e22.same w3).2⟩, T.c_StillTrial.T, _, _, T.m_StillTrial, .inl rfl⟩ (.nil))))))))))))))))))))))
end
end K00
set_option Elab.async false
set_option linter.all false
set_option maxRecDepth 100000
set_option maxHeartbeats 16000000
namespace K00
open PySem L2 X00
theorem pt_truthK {X : Cx} {a : Expr} {ta : TE} {K : PySem.W.Frag} (hK : X.K = K) (ha : PE X a ta) (he : ∀ whole, isTrue a X.env whole = (do let v ← whole; standAt a.pos; holding [v] (truthy v))) :
    PT X a (fun σ H Q => ta σ H fun x H' => ∃ k, TruV K x H' k ∧ Q k H') := by subst hK; exact pt_truth ha he
theorem op_neDK {X : Cx} {K : PySem.W.Frag} (hK : X.K = K) (hu : X.A.units + 64 < cLine) : OpR X (compareOp .NotEq) (rNeD K) := by subst hK; exact op_neD hu
inductive Nmd (K : PySem.W.Frag) (LE : Addr) : List Addr → List Str → Prop
  | nil : Nmd K LE [] []
  | cons {C : Addr} {n : Str} {Cs : List Addr} {ns : List Str} : MrL K C n (.ref C :: .ref LE :: veT) → Nmd K LE Cs ns → Nmd K LE (C :: Cs) (n :: ns)
theorem Nmd.get {K : PySem.W.Frag} {LE : Addr} : ∀ {Cs : List Addr} {ns : List Str} {i : Nat} {C : Addr}, Nmd K LE Cs ns → Cs[i]? = some C → ∃ n, ns[i]? = some n ∧ MrL K C n (.ref C :: .ref LE :: veT)
  | _, _, 0, _, .cons a _, h => by cases h; exact ⟨_, rfl, a⟩
  | _, _, i + 1, _, .cons _ r, h => by
    obtain ⟨n, c1, c2⟩ := Nmd.get (i := i) r (by simpa using h)
    exact ⟨n, by simpa using c1, c2⟩
  | _, _, i, _, .nil, h => by simp at h
def names : List Str := ("BadBox" : Str) :: ("BadChart" : Str) :: ("BadText" : Str) :: ("BadCounts" : Str) :: ("BadSurrounding" : Str) :: ("BadTable" : Str) :: ("BadShares" : Str) :: ("BadWeights" : Str) :: ("BadChanges" : Str) :: ("BadHouse" : Str) :: ("BadFinder" : Str) :: ("BadGaps" : Str) :: ("BadLook" : Str) :: ("BadEdits" : Str) :: ("BadRatio" : Str) :: ("NoFilling" : Str) :: ("NoSuchBox" : Str) :: ("NoWire" : Str) :: ("BadIns" : Str) :: ("BadPost" : Str) :: ("ChanceBox" : Str) :: ("BadNaming" : Str) :: ("BadOrder" : Str) :: ("BadDays" : Str) :: ("TooMany" : Str) :: ("NoStory" : Str) :: ("HasStory" : Str) :: ("NoLetter" : Str) :: ("OtherWires" : Str) :: ("NoBox" : Str) :: ("BadLot" : Str) :: ("NoRing" : Str) :: ("BadTurns" : Str) :: ("NotStaying" : Str) :: ("BadOuts" : Str) :: ("BadShare" : Str) :: ("BadSlip" : Str) :: ("BadNear" : Str) :: ("BadTold" : Str) :: ("BadNames" : Str) :: ("NotKnown" : Str) :: ("NotMade" : Str) :: ("NotLeft" : Str) :: ("NoKey" : Str) :: ("BadCustom" : Str) :: ("BadWish" : Str) :: ("NotOneBox" : Str) :: ("BadHand" : Str) :: ("BadLetter" : Str) :: ("BadExchange" : Str) :: ("BadDay" : Str) :: ("NoDayStory" : Str) :: ("BadRound" : Str) :: ("OtherLetters" : Str) :: ("NotIn" : Str) :: ("BadManner" : Str) :: ("BadPool" : Str) :: ("BadGoal" : Str) :: ("NothingLeft" : Str) :: ("StillTrial" : Str) :: []
theorem nodup : names.Nodup := by decide +kernel
theorem Tx.nmd {K : PySem.W.Frag} {mg : Str → Option Value} (T : Tx K mg) : Nmd K T.LE T.Ds names :=
  .cons T.m_BadBox (.cons T.m_BadChart (.cons T.m_BadText (.cons T.m_BadCounts (.cons T.m_BadSurrounding (.cons T.m_BadTable (.cons T.m_BadShares (.cons T.m_BadWeights (.cons T.m_BadChanges (.cons T.m_BadHouse (.cons T.m_BadFinder (.cons T.m_BadGaps (.cons T.m_BadLook (.cons T.m_BadEdits (.cons T.m_BadRatio (.cons T.m_NoFilling (.cons T.m_NoSuchBox (.cons T.m_NoWire (.cons T.m_BadIns (.cons T.m_BadPost (.cons T.m_ChanceBox (.cons T.m_BadNaming (.cons T.m_BadOrder (.cons T.m_BadDays (.cons T.m_TooMany (.cons T.m_NoStory (.cons T.m_HasStory (.cons T.m_NoLetter (.cons T.m_OtherWires (.cons T.m_NoBox (.cons T.m_BadLot (.cons T.m_NoRing (.cons T.m_BadTurns (.cons T.m_NotStaying (.cons T.m_BadOuts (.cons T.m_BadShare (.cons T.m_BadSlip (.cons T.m_BadNear (.cons T.m_BadTold (.cons T.m_BadNames (.cons T.m_NotKnown (.cons T.m_NotMade (.cons T.m_NotLeft (.cons T.m_NoKey (.cons T.m_BadCustom (.cons T.m_BadWish (.cons T.m_NotOneBox (.cons T.m_BadHand (.cons T.m_BadLetter (.cons T.m_BadExchange (.cons T.m_BadDay (.cons T.m_NoDayStory (.cons T.m_BadRound (.cons T.m_OtherLetters (.cons T.m_NotIn (.cons T.m_BadManner (.cons T.m_BadPool (.cons T.m_BadGoal (.cons T.m_NothingLeft (.cons T.m_StillTrial (.nil))))))))))))))))))))))))))))))))))))))))))))))))))))))))))))
theorem Tx.inj {K : PySem.W.Frag} {mg : Str → Option Value} (T : Tx K mg) {i j : Nat} {C : Addr} (hi : T.Ds[i]? = some C) (hj : T.Ds[j]? = some C) : i = j := by
  obtain ⟨n, n1, a⟩ := T.nmd.get hi
  obtain ⟨m, m1, b⟩ := T.nmd.get hj
  have e : n = m := by
    obtain ⟨c, c1, c2, _⟩ := a
    obtain ⟨d, d1, d2, _⟩ := b
    rw [c1] at d1
    cases d1
    exact c2.symm.trans d2
  subst e
  exact nd_ix nodup n1 m1
theorem kit_LE {K : PySem.W.Frag} {C LE : Addr} {n m : Str} {r : List Value} (mC : MrL K C n (.ref C :: .ref LE :: veT)) (mL : MrL K LE m r) (tL : PySem.W.typeIn K (.ref LE) = some (.type "type")) (ne : C ≠ LE) : PySem.W.kitOne K (.ref C) (.ref LE) = some true := by
  unfold PySem.W.kitOne
  have nb : ¬ ((Value.ref C == Value.ref LE) = true) := fun z => ne (Value.ref.inj (beq_iff_eq.mp z))
  rw [if_neg nb]
  obtain ⟨d, d1, _⟩ := mL
  show (if ((PySem.W.clsIn K LE).isSome && PySem.W.typeIn K (.ref LE) == some (.type "type")) = true then PySem.W.subIn K (.ref C) (.ref LE) else none) = some true
  rw [d1, tL, if_pos (by rfl)]
  exact sub_of mC _ rfl (by simp)
theorem kit_VE {K : PySem.W.Frag} {C LE : Addr} {n : Str} (mC : MrL K C n (.ref C :: .ref LE :: veT)) : PySem.W.kitOne K (.ref C) (.type "ValueError") = some true := by
  unfold PySem.W.kitOne
  rw [if_neg (by simp)]
  show (if PySem.W.kitMeta "ValueError" = true then PySem.W.subIn K (.ref C) (.type "ValueError") else none) = some true
  rw [if_pos (by decide +kernel)]
  exact sub_of mC _ rfl (by simp)
theorem sh_bools (bs : List Bool) : SeqAt.shaped (.list (bs.map PyData.bool)) = true := by
  have a : ∀ l : List Bool, PyData.canLayAll0 (l.map PyData.bool) = true := by
    intro l
    induction l with
    | nil => rfl
    | cons x r ih => show (PyData.canLay0 (.bool x) && PyData.canLayAll0 (r.map PyData.bool)) = true; rw [ih]; rfl
  have b : ∀ l : List Bool, PyData.depthAll (l.map PyData.bool) = 0 := by
    intro l
    induction l with
    | nil => rfl
    | cons x r ih => show max (PyData.depth (.bool x)) (PyData.depthAll (r.map PyData.bool)) = 0; rw [ih]; rfl
  unfold SeqAt.shaped
  show (PyData.canLayAll0 (bs.map PyData.bool) && decide (PyData.depthAll (bs.map PyData.bool) + 1 ≤ 64)) = true
  rw [a, b]
  rfl
theorem ev_bools (bs : List Bool) : PyData.eqv (.list (bs.map PyData.bool)) (.list (bs.map PyData.bool)) = true := by
  rw [PyData.eqv]
  induction bs with
  | nil => rfl
  | cons x r ih => show (PyData.eqv (.bool x) (.bool x) && PyData.eqvAll (r.map PyData.bool) (r.map PyData.bool)) = true; rw [ih]; simp [PyData.eqv]
theorem dp_bools {K : PySem.W.Frag} {H : Hp} : ∀ bs : List Bool, DpAll K H (bs.map V.bl) (bs.map PyData.bool)
  | [] => .nil
  | b :: r => .cons (.bl b) (dp_bools r)
theorem kind_bools (Ds : List Addr) (C : Addr) : kindV Ds C = (Ds.map fun D => decide (C = D)).map V.bl := by
  unfold kindV
  rw [List.map_map]
  rfl
abbrev S11 (a h : Addr) (v2 v3 v4 v5 v6 v7 v8 v9 v10 : Option V) : St := [some (.ref a), some (.ref h), v2, v3, v4, v5, v6, v7, v8, v9, v10]
def spLaw (K : PySem.W.Frag) : Sp := fun vs H Q _ => ∃ (a : Addr) (ns : List Int), vs = [.ref a] ∧ SqL K H a (ns.map V.int) ∧ ns.length ≤ 63 ∧ ∀ H', Q (.bl true) H'
theorem nine : (0 : Int) < 10 ^ (9 : Int).toNat ∧ ((10 : Int) ^ (9 : Int).toNat).natAbs < 2 ^ 9000 := ⟨by decide, Nat.lt_of_lt_of_le (show ((10 : Int) ^ (9 : Int).toNat).natAbs < 2 ^ 30 by decide) (Nat.pow_le_pow_right (by decide) (by decide))⟩
section
variable {P : Program} {w : World} {K : PySem.W.Frag} {mg : Str → Option Value} {base : Heap}
theorem ok_law (f : Addr) (fd : FuncData) (F : Fun K "law" "law" slaw f fd) (T : Tx K mg) : FnOk P w K mg base CX0 4 f fd ["_law_script"] (spLaw K) := by
  have Glaw_hand : FnOk P w K mg base CX0 1 T.law_hand.f T.law_hand.fd ["_law_script"] (spHand K) := ok_hand T.toTxA
  have Glaw_take : FnOk P w K mg base CX0 2 T.law_take.f T.law_take.fd ["_law_hand_here", "_law_many"] spTake := ok_take T.toTxA
  have Glaw_pairs : FnOk P w K mg base CX0 3 T.law_pairs.f T.law_pairs.fd ["_law_a", "_law_b"] (spMk K T.LE T.D_law_pairs 2 okP) := ok_law_pairs T
  have Glaw_first : FnOk P w K mg base CX0 3 T.law_first.f T.law_first.fd ["_law_a"] (spMk K T.LE T.D_law_first 1 ok1) := ok_law_first T
  have Glaw_second : FnOk P w K mg base CX0 3 T.law_second.f T.law_second.fd ["_law_a"] (spMk K T.LE T.D_law_second 1 ok1) := ok_law_second T
  have Glaw_kinds : FnOk P w K mg base CX0 1 T.law_kinds.f T.law_kinds.fd ["_law_e"] (spKinds K T.LE T.Ds) := ok_kinds T
  refine F.ok sclaw (fun vs H Q E h => ?_) (fun cdv A outer s H vs Q E hr h => ?_)
  · obtain ⟨_, _, rfl, _⟩ := h
    rfl
  · obtain ⟨a, ns, rfl, hS, hlen, k⟩ := h
    refine ⟨_, (cut (ps_set (i := 1) sclaw.nd rfl (Or.inl rfl) (pe_call Glaw_hand (hr.mono (by decide)) rfl T.law_hand.g T.law_hand.F.kp T.law_hand.b .nil pass0 (pa_cons (pv 0) pa_nil)))
  (cut (ps_set (i := 2) sclaw.nd rfl (Or.inr rfl) (pe_op op_add (pe_op op_mulW (pe_call Glaw_take (hr.mono (by decide)) rfl T.law_take.g T.law_take.F.kp T.law_take.b .nil pass0 (pa_cons (pv 1) (pa_cons (pe_op op_pow pe_int pe_int) pa_nil))) (pe_op op_pow pe_int pe_int)) (pe_call Glaw_take (hr.mono (by decide)) rfl T.law_take.g T.law_take.F.kp T.law_take.b .nil pass0 (pa_cons (pv 1) (pa_cons (pe_op op_pow pe_int pe_int) pa_nil)))))
  (cut (ps_set (i := 3) sclaw.nd rfl (Or.inr rfl) (pe_op op_add (pe_op op_add (pv 2) pe_int) (pe_call Glaw_take (hr.mono (by decide)) rfl T.law_take.g T.law_take.F.kp T.law_take.b .nil pass0 (pa_cons (pv 1) (pa_cons (pe_op op_pow pe_int pe_int) pa_nil)))))
  (cut (ps_set (i := 4) sclaw.nd rfl (Or.inl rfl) (pe_call Glaw_pairs (hr.mono (by decide)) rfl T.law_pairs.g T.law_pairs.F.kp T.law_pairs.b .nil pass0 (pa_cons (pv 2) (pa_cons (pv 3) pa_nil))))
  (cut (ps_if (PW.pt (pw_or (pt_truth (pe_lc (own := [("_law_kept", 5)]) (g := gName 5) rfl sclaw.nd (pi_list (pe_ix ix_list (pv 4) pe_int (fun _ _ => rfl))) (blkOk_by (N := ["_law_script", "_law_hand_here", "_law_a", "_law_b", "_law_pairs_here", "_law_kept", "_law_found", "_law_part", "_law_at", "_law_other", "_law_kind"]) (sc := defScope slaw) (by decide +kernel)) (fun _ _ _ _ _ => pg_name (i := 5) sclaw.nd rfl (Or.inl rfl)) (fun _ _ _ _ _ => pts_one (pt_cmpR (op_neDK (K := K) rfl hr.units) (pv 5) (pe_tup (pa_cons (pv 2) (pa_cons (pv 3) pa_nil))) (nomark _))) (fun _ _ _ _ _ => (pv 5))) (by intro _; rfl)) (pw_or1 (pt_cmpR op_ne (pe_callB call_len_seq (by rfl) T.len PySem.boot_len (pa_cons (pe_ix ix_list (pv 4) pe_int (fun _ _ => rfl)) pa_nil)) (pe_callB call_len_seq (by rfl) T.len PySem.boot_len (pa_cons (pe_ix ix_list (pv 4) pe_int (fun _ _ => rfl)) pa_nil)) (nomark _))))) (pss_one (ps_ret pe_bl)) pss_nil)
  (cut (ps_set (i := 6) sclaw.nd rfl (Or.inl rfl) (pe_ix ix_list (pv 4) pe_int (fun _ _ => rfl)))
  (cut (ps_for PassesOwn.never rfl (pi_list (pe_lst (pa_cons (pe_call Glaw_first (hr.mono (by decide)) rfl T.law_first.g T.law_first.F.kp T.law_first.b .nil pass0 (pa_cons (pv 3) pa_nil)) (pa_cons (pe_call Glaw_second (hr.mono (by decide)) rfl T.law_second.g T.law_second.F.kp T.law_second.b .nil pass0 (pa_cons (pv 3) pa_nil)) pa_nil)))) (pg_name (i := 7) sclaw.nd rfl (Or.inl rfl))
  (cut (ps_if (PW.pt (pw_or (pt_truth (pe_lc (own := [("_law_kept", 5)]) (g := gName 5) rfl sclaw.nd (pi_list (pe_ix ix_list (pv 7) pe_int (fun _ _ => rfl))) (blkOk_by (N := ["_law_script", "_law_hand_here", "_law_a", "_law_b", "_law_pairs_here", "_law_kept", "_law_found", "_law_part", "_law_at", "_law_other", "_law_kind"]) (sc := defScope slaw) (by decide +kernel)) (fun _ _ _ _ _ => pg_name (i := 5) sclaw.nd rfl (Or.inl rfl)) (fun _ _ _ _ _ => pts_one (pt_cmpR op_ne (pv 5) (pv 3) (nomark _))) (fun _ _ _ _ _ => (pv 5))) (by intro _; rfl)) (pw_or1 (pt_cmpR op_ne (pe_callB call_len_seq (by rfl) T.len PySem.boot_len (pa_cons (pe_ix ix_list (pv 7) pe_int (fun _ _ => rfl)) pa_nil)) (pe_callB call_len_seq (by rfl) T.len PySem.boot_len (pa_cons (pe_ix ix_list (pv 7) pe_int (fun _ _ => rfl)) pa_nil)) (nomark _))))) (pss_one (ps_ret pe_bl)) pss_nil)
  (pss_one (ps_set (i := 6) sclaw.nd rfl (Or.inl rfl) (pe_op op_cat (pv 6) (pe_ix ix_list (pv 7) pe_int (fun _ _ => rfl)))))))
  (cut (ps_for PassesOwn.never rfl (pi_range1 rfl T.range (pa_cons (pe_callB call_len_seq (by rfl) T.len PySem.boot_len (pa_cons (pv 6) pa_nil)) pa_nil)) (pg_name (i := 8) sclaw.nd rfl (Or.inr rfl))
  (cut (ps_if (PW.pt (pw_or (pt_not (pt_val (pe_callB call_isO (by rfl) T.isinstance (by decide +kernel) (pa_cons (pe_ix ix_list (pv 6) (pv 8) (fun _ _ => rfl)) (pa_cons (pe_glob (v := .ref T.LE) rfl T.gLE rfl) pa_nil))))) (pw_or1 (pt_not (pt_val (pe_callB call_isO (by rfl) T.isinstance (by decide +kernel) (pa_cons (pe_ix ix_list (pv 6) (pv 8) (fun _ _ => rfl)) (pa_cons (pe_bltn (v := .ty "ValueError") (by rfl) T.ValueError (by decide +kernel) rfl) pa_nil)))))))) (pss_one (ps_ret pe_bl)) pss_nil)
  (pss_one (ps_if (pt_cmpR (op_neDK (K := K) rfl hr.units) (pe_call Glaw_kinds (hr.mono (by decide)) rfl T.law_kinds.g T.law_kinds.F.kp T.law_kinds.b .nil pass0 (pa_cons (pe_ix ix_list (pv 6) (pv 8) (fun _ _ => rfl)) pa_nil)) (pe_lc (own := [("_law_other", 9)]) (g := gName 9) (tt := tYes) rfl sclaw.nd (pi_range1 rfl T.range (pa_cons (pe_callB call_len_seq (by rfl) T.len PySem.boot_len (pa_cons (pv 6) pa_nil)) pa_nil)) (blkOk_by (N := ["_law_script", "_law_hand_here", "_law_a", "_law_b", "_law_pairs_here", "_law_kept", "_law_found", "_law_part", "_law_at", "_law_other", "_law_kind"]) (sc := defScope slaw) (by decide +kernel)) (fun _ _ _ _ _ => pg_name (i := 9) sclaw.nd rfl (Or.inl rfl)) (fun _ _ _ _ _ => pts_nil) (fun _ _ _ _ _ => (pe_cmpR op_eq (pv 9) (pv 8) (nomark _)))) (nomark _)) (pss_one (ps_ret pe_bl)) pss_nil))))
  (pss_one (ps_ret (pe_notT (pe_lc (own := [("_law_kind", 10)]) (g := gName 10) rfl sclaw.nd (pi_list (pe_call Glaw_kinds (hr.mono (by decide)) rfl T.law_kinds.g T.law_kinds.F.kp T.law_kinds.b .nil pass0 (pa_cons (pe_exc1 PySem.F.excBase_ValueError T.xLE T.gLE T.TLE.ox.kC (by rfl) pe_str) pa_nil))) (blkOk_by (N := ["_law_script", "_law_hand_here", "_law_a", "_law_b", "_law_pairs_here", "_law_kept", "_law_found", "_law_part", "_law_at", "_law_other", "_law_kind"]) (sc := defScope slaw) (by decide +kernel)) (fun _ _ _ _ _ => pg_name (i := 10) sclaw.nd rfl (Or.inl rfl)) (fun _ _ _ _ _ => pts_one (pt_truthK (K := K) rfl (pv 10) (by intro _; rfl))) (fun _ _ _ _ _ => pe_int))))))))))))), ?_⟩
    have p9 : CPow 10 9 := by unfold CPow; decide
    refine ⟨fun σ' H' => ∃ h c, σ' = S11 a h none none none none none none none none none ∧ Hand H' h c, ?_, ?_⟩
    · exact ⟨_, rfl, a, ns, rfl, hS, hlen, fun h c H' hn s1 hh => ⟨h, c, rfl, hh⟩⟩
    rintro σ' H1 ⟨h, c, rfl, hh1⟩
    refine ⟨fun σ' H' => ∃ x : Int, σ' = S11 a h (some (.int x)) none none none none none none none none ∧ Hand H' h c, ?_, ?_⟩
    · refine ⟨_, rfl, _, _, rfl, rfl, p9, h, c, _, rfl, nine.1, nine.2, hh1, fun r H2 r0 r1 kp hh2 => ?_⟩
      have rb : r.natAbs < 2 ^ 30 := by
        have e : (10 : Int) ^ (9 : Int).toNat = 1000000000 := by decide
        rw [e] at r1
        have e2 : (2 : Nat) ^ 30 = 1073741824 := by decide
        rw [e2]
        omega
      refine ⟨_, _, rfl, rfl, p9, _, _, rfl, rfl, wide_mul (a := 30) (b := 30) rb (by decide) (by decide) (by decide) (by decide), _, rfl, _, _, rfl, rfl, p9, h, c, _, rfl, nine.1, nine.2, hh2, fun r' H3 r0' r1' kp' hh3 => ⟨_, _, rfl, rfl, _, rfl, hh3⟩⟩
    rintro σ' H2 ⟨x, rfl, hh2⟩
    refine ⟨fun σ' H' => ∃ y : Int, σ' = S11 a h (some (.int x)) (some (.int y)) none none none none none none none, ?_, ?_⟩
    · exact ⟨_, rfl, _, _, rfl, rfl, _, rfl, _, _, rfl, rfl, p9, h, c, _, rfl, nine.1, nine.2, hh2, fun r' H3 r0' r1' kp' hh3 => ⟨_, _, rfl, rfl, _, rfl⟩⟩
    rintro σ' H3 ⟨y, rfl⟩
    -- pairs
    refine ⟨fun σ' H' => ∃ (r l1 l2 : Addr) (es : List Addr) (ks : List V), σ' = S11 a h (some (.int x)) (some (.int y)) (some (.ref r)) none none none none none none ∧ H' r = some (.lst [.ref l1, .ref l2]) ∧ H' l1 = some (.lst (es.map V.ref)) ∧ H' l2 = some (.lst ks) ∧ ks.length = 14 ∧ (∀ q ∈ ks, okP [.int x, .int y] H' q) ∧ ErrsL K T.LE H' es T.D_law_pairs, ?_, ?_⟩
    · refine ⟨_, rfl, _, rfl, rfl, ?_, fun r l1 l2 es ks H' s1 e1 e2 e3 e4 e5 e6 => ⟨r, l1, l2, es, ks, rfl, e1, e2, e3, e4, e5, e6⟩⟩
      intro v hv
      have hv : v ∈ [V.int x, V.int y] := hv
      simp only [List.mem_cons, List.not_mem_nil, or_false] at hv
      rcases hv with rfl | rfl <;> exact ⟨_, rfl⟩
    rintro σ' H4 ⟨r, l1, l2, es, ks, rfl, er, e1, e2, kl, kp, EL⟩
    have el : es.length = 14 := EL.len
    refine ⟨fun σ' H' => σ' = S11 a h (some (.int x)) (some (.int y)) (some (.ref r)) none none none none none none ∧ Same H4 H', ?_, ?_⟩
    · refine ⟨_, rfl, r, _, 1, _, rfl, rfl, SqL.of er, atI_nat rfl, l2, rfl, ⟨_, SqL.of e2⟩, fun D nD => ?_⟩
      refine lc_list (K := K) (a := l2) (xs := ks) (fun i H' => Same H4 H' ∧ H' D = some (.lst [])) ⟨same_new nD, upd_same⟩ (fun i H' _ p => SqL.of (p.1 _ _ e2)) ?_ ?_
      · rintro i v H5 hi ⟨s5, eD⟩
        obtain ⟨t, rfl, et⟩ := kp v (List.mem_of_getElem? hi)
        refine ⟨rfl, _, rfl, _, rfl, _, rfl, (by show 2 ≤ sizeLine; decide), fun t2 nt => ?_⟩
        have s6 := same_new (o := .tup [.int x, .int y]) nt
        refine ⟨.tuple [.int x, .int y], .tuple [.int x, .int y], .tup (SqT.of ((s5.trans s6) _ _ et)) (.cons (.int _) (.cons (.int _) .nil)), .tup (SqT.of upd_same) (.cons (.int _) (.cons (.int _) .nil)), ?_, ?_, _, rfl, ?_⟩
        · unfold SeqAt.shaped; simp [PyData.canLay0, PyData.canLayAll0, PyData.depth, PyData.depthAll]
        · unfold SeqAt.shaped; simp [PyData.canLay0, PyData.canLayAll0, PyData.depth, PyData.depthAll]
        · have ev : PyData.eqv (.tuple [.int x, .int y]) (.tuple [.int x, .int y]) = true := by simp [PyData.eqv, PyData.eqvAll]
          rw [ev]
          exact iteF ⟨s5.trans s6, s6 _ _ eD⟩
      · rintro H5 ⟨s5, eD⟩
        refine ⟨false, .inl ⟨[], SqL.of eD, rfl⟩, iteF ?_⟩
        refine ⟨_, rfl, r, _, 1, _, rfl, rfl, SqL.of (s5 _ _ er), atI_nat rfl, l2, _, rfl, .inl (SqL.of (s5 _ _ e2)), _, rfl, r, _, 0, _, rfl, rfl, SqL.of (s5 _ _ er), atI_nat rfl, l1, _, rfl, .inl (SqL.of (s5 _ _ e1)), rfl, _, rfl, ?_⟩
        rw [List.length_map, kl, el, decide_eq_true rfl]
        exact iteF ⟨rfl, s5⟩
    rintro σ' H5 ⟨rfl, s5⟩
    have er5 := s5 _ _ er
    have e15 := s5 _ _ e1
    have EL5 := ErrsL.same s5 EL
    refine ⟨fun σ' H' => σ' = S11 a h (some (.int x)) (some (.int y)) (some (.ref r)) none (some (.ref l1)) none none none none ∧ H' = H5, ?_, ?_⟩
    · exact ⟨_, rfl, r, _, 0, _, rfl, rfl, SqL.of er5, atI_nat rfl, rfl, rfl⟩
    rintro σ' H6 ⟨rfl, rfl⟩
    -- the parts
    refine ⟨fun σ' H' => ∃ (F2 : Addr) (fs : List Addr) (v7 : Option V), σ' = S11 a h (some (.int x)) (some (.int y)) (some (.ref r)) none (some (.ref F2)) v7 none none none ∧ H' F2 = some (.lst (fs.map V.ref)) ∧ ErrsL K T.LE H' fs T.Ds, ?_, ?_⟩
    · refine ⟨_, rfl, rfl, ?_, fun ra a1 a2 as ka Ha sa xa1 xa2 xa3 xa4 xa5 xa6 => ⟨_, rfl, rfl, ?_, fun rb b1 b2 bs kb Hb sb xb1 xb2 xb3 xb4 xb5 xb6 => ⟨(by show 2 ≤ sizeLine; decide), fun PL nP => ?_⟩⟩⟩
      · intro v hv
        exact ⟨y, by simpa using hv⟩
      · intro v hv
        exact ⟨y, by simpa using hv⟩
      have sP := same_new (o := .lst [.ref ra, .ref rb]) nP
      have sA := sb.trans sP
      refine ⟨PL, rfl, ⟨_, SqL.of upd_same⟩, for_list (K := K) (a := PL) (xs := [.ref ra, .ref rb])
        (fun i σ' H' => Same (upd Hb PL (.lst [.ref ra, .ref rb])) H' ∧ ∃ (F2 : Addr) (fs : List Addr) (v7 : Option V), σ' = S11 a h (some (.int x)) (some (.int y)) (some (.ref r)) none (some (.ref F2)) v7 none none none ∧ H' F2 = some (.lst (fs.map V.ref)) ∧
          ErrsL K T.LE H' fs (match i with | 0 => T.D_law_pairs | 1 => T.D_law_pairs ++ T.D_law_first | _ => (T.D_law_pairs ++ T.D_law_first) ++ T.D_law_second))
        ⟨Same.refl _, l1, es, none, rfl, (sa.trans sA) _ _ e15, ErrsL.same (sa.trans sA) EL5⟩ (fun i σ H' _ p => SqL.of (p.1 _ _ upd_same)) ?_ ?_⟩
      · rintro i v σ Hc hi ⟨sc, F2, fs, v7, rfl, eF, EF⟩
        match i, hi with
        | 0, hi =>
          cases hi
          have z1 := (sA.trans sc) _ _ xa1
          have z2 := (sA.trans sc) _ _ xa2
          have z3 := (sA.trans sc) _ _ xa3
          have EZ := ErrsL.same (sA.trans sc) xa6
          refine ⟨fun σ' H' => σ' = S11 a h (some (.int x)) (some (.int y)) (some (.ref r)) none (some (.ref F2)) (some (.ref ra)) none none none ∧ Same Hc H', ?_, ?_⟩
          · refine ⟨_, rfl, ra, _, 1, _, rfl, rfl, SqL.of z1, atI_nat rfl, a2, rfl, ⟨_, SqL.of z3⟩, fun D nD => ?_⟩
            refine lc_list (K := K) (a := a2) (xs := ka) (fun i H' => Same Hc H' ∧ H' D = some (.lst [])) ⟨same_new nD, upd_same⟩ (fun i H' _ p => SqL.of (p.1 _ _ z3)) ?_ ?_
            · rintro j u Hd hj ⟨sd, eD⟩
              have e5 := xa5 u (List.mem_of_getElem? hj)
              obtain rfl : u = .int y := by
                have q : [u] = [V.int y] := e5
                injection q
              refine ⟨rfl, _, rfl, _, rfl, rfl, _, rfl, ?_⟩
              rw [decide_eq_true rfl]
              exact iteF ⟨sd, eD⟩
            · rintro Hd ⟨sd, eD⟩
              refine ⟨false, .inl ⟨[], SqL.of eD, rfl⟩, iteF ?_⟩
              refine ⟨_, rfl, ra, _, 0, _, rfl, rfl, SqL.of (sd _ _ z1), atI_nat rfl, a1, _, rfl, .inl (SqL.of (sd _ _ z2)), _, rfl, ra, _, 1, _, rfl, rfl, SqL.of (sd _ _ z1), atI_nat rfl, a2, _, rfl, .inl (SqL.of (sd _ _ z3)), rfl, _, rfl, ?_⟩
              rw [List.length_map, EZ.len, xa4, decide_eq_true rfl]
              exact iteF ⟨rfl, sd⟩
          rintro σ' Hd ⟨rfl, sd⟩
          refine ⟨_, rfl, _, rfl, ra, _, 0, _, rfl, rfl, SqL.of (sd _ _ z1), atI_nat rfl, F2, a1, _, _, rfl, rfl, sd _ _ eF, sd _ _ z2, ?_, fun N nN => ?_⟩
          · have q1 : fs.length = [14, 38].getD 0 0 := EF.len
            have q2 : as.length = [24, 22].getD 0 0 := EZ.len
            rw [List.length_map, List.length_map, q1, q2]
            exact Nat.le_of_lt (small1000 (by decide))
          have sN := same_new (o := .lst (fs.map V.ref ++ as.map V.ref)) nN
          exact ⟨(sc.trans sd).trans sN, N, fs ++ as, _, rfl, by rw [upd_same, List.map_append], ErrsL.same (sd.trans sN) (ErrsL.append EF EZ)⟩
        | 1, hi =>
          cases hi
          have z1 := (sP.trans sc) _ _ xb1
          have z2 := (sP.trans sc) _ _ xb2
          have z3 := (sP.trans sc) _ _ xb3
          have EZ := ErrsL.same (sP.trans sc) xb6
          refine ⟨fun σ' H' => σ' = S11 a h (some (.int x)) (some (.int y)) (some (.ref r)) none (some (.ref F2)) (some (.ref rb)) none none none ∧ Same Hc H', ?_, ?_⟩
          · refine ⟨_, rfl, rb, _, 1, _, rfl, rfl, SqL.of z1, atI_nat rfl, b2, rfl, ⟨_, SqL.of z3⟩, fun D nD => ?_⟩
            refine lc_list (K := K) (a := b2) (xs := kb) (fun i H' => Same Hc H' ∧ H' D = some (.lst [])) ⟨same_new nD, upd_same⟩ (fun i H' _ p => SqL.of (p.1 _ _ z3)) ?_ ?_
            · rintro j u Hd hj ⟨sd, eD⟩
              have e5 := xb5 u (List.mem_of_getElem? hj)
              obtain rfl : u = .int y := by
                have q : [u] = [V.int y] := e5
                injection q
              refine ⟨rfl, _, rfl, _, rfl, rfl, _, rfl, ?_⟩
              rw [decide_eq_true rfl]
              exact iteF ⟨sd, eD⟩
            · rintro Hd ⟨sd, eD⟩
              refine ⟨false, .inl ⟨[], SqL.of eD, rfl⟩, iteF ?_⟩
              refine ⟨_, rfl, rb, _, 0, _, rfl, rfl, SqL.of (sd _ _ z1), atI_nat rfl, b1, _, rfl, .inl (SqL.of (sd _ _ z2)), _, rfl, rb, _, 1, _, rfl, rfl, SqL.of (sd _ _ z1), atI_nat rfl, b2, _, rfl, .inl (SqL.of (sd _ _ z3)), rfl, _, rfl, ?_⟩
              rw [List.length_map, EZ.len, xb4, decide_eq_true rfl]
              exact iteF ⟨rfl, sd⟩
          rintro σ' Hd ⟨rfl, sd⟩
          refine ⟨_, rfl, _, rfl, rb, _, 0, _, rfl, rfl, SqL.of (sd _ _ z1), atI_nat rfl, F2, b1, _, _, rfl, rfl, sd _ _ eF, sd _ _ z2, ?_, fun N nN => ?_⟩
          · have q1 : fs.length = [14, 38].getD 1 0 := EF.len
            have q2 : bs.length = [24, 22].getD 1 0 := EZ.len
            rw [List.length_map, List.length_map, q1, q2]
            exact Nat.le_of_lt (small1000 (by decide))
          have sN := same_new (o := .lst (fs.map V.ref ++ bs.map V.ref)) nN
          exact ⟨(sc.trans sd).trans sN, N, fs ++ bs, _, rfl, by rw [upd_same, List.map_append], ErrsL.same (sd.trans sN) (ErrsL.append EF EZ)⟩
        | i + 2, hi => simp at hi
      · rintro σ Hc ⟨sc, F2, fs, v7, rfl, eF, EF⟩
        exact ⟨F2, fs, v7, rfl, eF, EF⟩
    rintro σ' H7 ⟨F2, fs, v7, rfl, eF, EF⟩
    have fl : fs.length = 60 := EF.len
    have dl : T.Ds.length = 60 := rfl
    -- one by one
    refine ⟨fun σ' H' => ∃ v8 v9, σ' = S11 a h (some (.int x)) (some (.int y)) (some (.ref r)) none (some (.ref F2)) v7 v8 v9 none ∧ Same H7 H', ?_, ?_⟩
    · refine ⟨_, rfl, F2, _, rfl, .inl (SqL.of eF), _, rfl, by omega, ?_, ?_⟩
      · rw [List.length_map, fl]; decide
      rw [List.length_map, fl]
      refine for_range (n := (60 : Int).toNat) (fun i σ' H' => ∃ v8 v9, σ' = S11 a h (some (.int x)) (some (.int y)) (some (.ref r)) none (some (.ref F2)) v7 v8 v9 none ∧ Same H7 H') ⟨_, _, rfl, Same.refl _⟩ ?_ (fun σ H' p => p)
      rintro i σ H8 hi ⟨v8, v9, rfl, s8⟩
      have i60 : i < 60 := hi
      have hf : fs[i]? = some fs[i] := List.getElem?_eq_getElem _
      obtain ⟨C, hC, HC⟩ := EF.get hf
      obtain ⟨n, _, mC⟩ := T.nmd.get hC
      have HC8 := HC.same s8
      have neL : C ≠ T.LE := by
        intro z
        subst z
        have : n = "LetterError" := by
          obtain ⟨q, q1, q2, _⟩ := mC
          obtain ⟨p, p1, p2, _⟩ := T.mLE
          rw [q1] at p1
          cases p1
          exact q2.symm.trans p2
        obtain ⟨q, qa, _, q3⟩ := mC
        obtain ⟨p, p1, _, p3⟩ := T.mLE
        rw [qa] at p1
        cases p1
        rw [q3] at p3
        cases p3
      have at0 : ∀ {H' : Hp}, Same H7 H' → atI (fs.map V.ref) ((0 : Int) + (i : Int)) = some (V.ref fs[i]) := fun _ => at_of (j := i) (by omega) (by rw [List.getElem?_map, hf]; rfl)
      refine ⟨fun σ' H' => σ' = S11 a h (some (.int x)) (some (.int y)) (some (.ref r)) none (some (.ref F2)) v7 (some (.int (0 + i))) v9 none ∧ H' = H8, ?_, ?_⟩
      · refine ⟨_, rfl, _, rfl, F2, _, _, _, rfl, rfl, SqL.of (s8 _ _ eF), at0 s8, fs[i], C, _, _, _, rfl, HC8.e, HC8.T, .own _, kit_LE mC T.mLE T.TLE.ox.tyC neL, _, rfl, iteF ?_⟩
        exact ⟨_, rfl, _, rfl, F2, _, _, _, rfl, rfl, SqL.of (s8 _ _ eF), at0 s8, fs[i], C, _, _, _, rfl, HC8.e, HC8.T, .ty _, kit_VE mC, _, rfl, iteF ⟨rfl, rfl⟩⟩
      rintro σ' H9 ⟨rfl, rfl⟩
      refine ⟨_, rfl, _, rfl, F2, _, _, _, rfl, rfl, SqL.of (s8 _ _ eF), at0 s8, fs[i], C, rfl, HC8, fun p Ha sa na ea => ?_⟩
      refine ⟨_, rfl, F2, _, rfl, .inl (SqL.of ((s8.trans sa) _ _ eF)), _, rfl, by omega, ?_, fun D nD => ?_⟩
      · rw [List.length_map, fl]; decide
      rw [List.length_map, fl]
      refine lc_range (lo := 0) (n := (60 : Int).toNat) (fun j H' => Same (upd Ha D (.lst [])) (upd H' D (.lst [])) ∧ Same Ha H' ∧ H' D = some (.lst ((List.range j).map fun (q : Nat) => V.bl (decide (V.int (0 + (q : Int)) = V.int (0 + (i : Int))))))) ⟨Same.refl _ |> fun z => by simpa [upd_upd] using z, same_new nD, upd_same⟩ ?_ ?_
      · rintro j Hb hj ⟨t1, t2, eD⟩
        refine ⟨rfl, _, rfl, _, rfl, rfl, _, eD, ?_, ?_, ?_, ?_⟩
        · rw [List.length_map, List.length_range]; exact small1000 (by have : j < 60 := hj; omega)
        · rw [upd_upd]; exact t1
        · intro b o z
          by_cases hb : b = D
          · rw [hb, nD] at z; cases z
          · rw [upd_ne hb]; exact t2 b o z
        · rw [upd_same, List.range_succ, List.map_append]; rfl
      · rintro Hb ⟨t1, t2, eD⟩
        have eqL : ((List.range (60 : Int).toNat).map fun (q : Nat) => V.bl (decide (V.int (0 + (q : Int)) = V.int (0 + (i : Int))))) = kindV T.Ds C := by
          apply List.ext_getElem?
          intro j
          unfold kindV
          rw [List.getElem?_map, List.getElem?_map]
          rcases Nat.lt_or_ge j 60 with hj | hj
          · have hd : T.Ds[j]? = some (T.Ds[j]'(by rw [dl]; exact hj)) := List.getElem?_eq_getElem _
            rw [List.getElem?_range (show j < (60 : Int).toNat from hj), hd]
            show some (V.bl _) = some (V.bl _)
            congr 2
            apply decide_eq_decide.mpr
            constructor
            · intro z
              injection z with z
              have : j = i := by omega
              subst this
              rw [hd] at hC
              exact (Option.some.inj hC).symm
            · intro z
              rw [← z] at hd
              have := T.inj hC hd
              rw [this]
          · rw [List.getElem?_eq_none (by rw [List.length_range]; exact hj), List.getElem?_eq_none (by rw [dl]; exact hj)]
            rfl
        rw [eqL] at eD
        rw [kind_bools] at eD ea
        refine ⟨.list ((T.Ds.map fun D => decide (C = D)).map PyData.bool), .list ((T.Ds.map fun D => decide (C = D)).map PyData.bool), .lst (SqL.of (t2 _ _ ea)) (dp_bools _), .lst (SqL.of eD) (dp_bools _), sh_bools _, sh_bools _, _, rfl, ?_⟩
        rw [ev_bools]
        exact iteF ⟨_, _, rfl, (s8.trans sa).trans t2⟩
    rintro σ' H8 ⟨v8, v9, rfl, s8⟩
    -- a LetterError is of none
    refine fun e ne => ?_
    have HL : Held K T.LE (upd H8 e (ExO (.ref T.LE) e)) e T.LE := ⟨.inr upd_same, T.TLE, _, _, T.mLE, .inr ⟨rfl, rfl⟩⟩
    refine ⟨e, T.LE, rfl, HL, fun p Ha sa na ea => ?_⟩
    refine ⟨p, rfl, ⟨_, SqL.of ea⟩, fun D nD => ?_⟩
    refine lc_list (K := K) (a := p) (xs := kindV T.Ds T.LE) (tt := fun σ H Q => tVar 10 σ H fun x H' => ∃ k, TruV K x H' k ∧ Q k H') (te := tC (V.int 1)) (Qd := fun H1 => ∃ k, TruV K (.ref D) H1 k ∧ Q (.bl (!k)) H1) (fun i H' => Same Ha H' ∧ H' D = some (.lst [])) ⟨same_new nD, upd_same⟩ (fun i H' _ q => SqL.of (q.1 _ _ ea)) ?_ ?_
    · rintro i v Hb hi ⟨sb, eD⟩
      obtain rfl : v = .bl false := by
        unfold kindV at hi
        rw [List.getElem?_map] at hi
        cases hd : T.Ds[i]? with
        | none => rw [hd] at hi; cases hi
        | some D' =>
          rw [hd] at hi
          cases hi
          obtain ⟨n, hn, mD⟩ := T.nmd.get hd
          have : T.LE ≠ D' := T.mLE.ne mD (by
            intro z
            have : n ∈ names := List.mem_of_getElem? hn
            rw [← z] at this
            revert this
            decide +kernel)
          show V.bl (decide (T.LE = D')) = _
          rw [decide_eq_false this]
      refine ⟨rfl, _, rfl, false, rfl, ?_⟩
      exact iteF ⟨sb, eD⟩
    · rintro Hb ⟨sb, eD⟩
      exact ⟨false, .inl ⟨[], SqL.of eD, rfl⟩, k Hb⟩
end
end K00
set_option Elab.async false
set_option linter.all false
set_option maxRecDepth 100000
set_option maxHeartbeats 16000000
namespace K00
open PySem L2 X00
theorem walk {l : PySem.W.OpenLaw} {q : Program} {loose : List Str} {XP : (Str → Option Value) → Heap → Prop} {YP : World → Heap → Prop} {d : DefRec} {K : Params → PySem.W.Frag} (hn : l.most = some 63) (hdf : d.params.defaults = [])
    (hY : ∀ (w : World) (h : Heap), YP w h → (K w.params).In h)
    (F : ∀ (w : World) (mg : Str → Option Value) (fa : Addr) (h : Heap), (K w.params).In h → h.Ns mainGlobals mg → mg d.name = some (.ref fa) →
      ∃ fd : FuncData, (∀ (s : Shared) (u : Value), BindsTo s fd ⟨[u], []⟩ [("_law_script", u)]) ∧ ∀ base : Heap, (K w.params).In base → base.Ns mainGlobals mg → FnOk l.prog w (K w.params) mg base CX0 4 fa fd ["_law_script"] (spLaw (K w.params))) :
    PySem.W.WalkO q loose XP YP l.row.toRowW d [] (fun f vs => PySem.call f vs) :=
  L2.walk_of (n := 63) (k := 4) (x := "_law_script") (CX := fun _ => CX0) (sp := fun w => spLaw (K w.params)) hn (by decide) hdf ⟨rfl, by decide, by decide⟩ hY F (fun _ _ a ns hl _ hS => ⟨a, ns, rfl, hS, hl, fun _ => rfl⟩) fun _ _ _ _ _ z => z
end K00
set_option Elab.async false
set_option linter.all false
set_option maxRecDepth 100000
set_option maxHeartbeats 16000000
namespace K00
open PySem L2 X00
structure LEAt (K : PySem.W.Frag) where
  C : Addr
  a : PySem.W.nsIn K mainGlobals "LetterError" = some (some (.ref C))
  T : ErrC K C
  m : MrL K C "LetterError" (.ref C :: veT)
  x : PySem.W.excIn K C veT "ValueError.__new__" = true
structure EcAt (K : PySem.W.Frag) (LE : Addr) (x q : Str) (fs : List Str) (st : Stmt) where
  C : Addr
  fI : Addr
  fd : FuncData
  a : PySem.W.nsIn K mainGlobals x = some (some (.ref C))
  T : ErrC K C
  nf : ∀ f ∈ fs, PySem.W.findIn K (.ref C) f = some none
  iC : PySem.W.findIn K (.ref C) "__init__" = some (some (.ref fI))
  tI : PySem.W.typeIn K (.ref fI) = some (.type "function")
  F : Fun K "__init__" q st fI fd
  m : MrL K C x (.ref C :: .ref LE :: veT)
structure FnAt (K : PySem.W.Frag) (x : Str) (st : Stmt) where
  f : Addr
  fd : FuncData
  a : PySem.W.nsIn K mainGlobals x = some (some (.ref f))
  F : Fun K x x st f fd
structure Glb (K : PySem.W.Frag) : Prop where
  cg : PySem.W.specialIn K (.builtin "object.__class__") "__get__" = some (some (.builtin "getset_descriptor.__get__"))
  ct : PySem.W.takesIn K (.builtin "object.__class__") = some true
theorem mrL_mk {K : PySem.W.Frag} {C N : Addr} {nm q : Str} {bs tl : List Value} {sn : List Str} {sub : List Value} {ab : Bool} {col : Option Bool} {dd : Option Addr} {k0 k1 k2 k3 k5 : Option Value}
    (xL : K.lookup C = some (PySem.excClassObj nm q C N bs tl true sn sub ab col dd k0 k1 k2 k3 k5 "ValueError.__new__")) : MrL K C nm (.ref C :: tl) := by
  refine ⟨{ name := nm, bases := bs, mro := .ref C :: tl, ns := N, qualname := q, hasDict := true, slotNames := sn, subclasses := sub, abstract := ab, collection := col, hasDel := false }, ?_, rfl, rfl⟩
  unfold PySem.W.clsIn
  rw [xL]
theorem errC_mk {K : PySem.W.Frag} {C N : Addr} {nm q : Str} {bs tl : List Value} {sn : List Str} {sub : List Value} {ab : Bool} {col : Option Bool} {dd : Option Addr} {k0 k1 k2 k3 k5 : Option Value} (Z : Glb K)
    (xL : K.lookup C = some (PySem.excClassObj nm q C N bs tl true sn sub ab col dd k0 k1 k2 k3 k5 "ValueError.__new__")) (hr : PySem.HandSPX.refsVE tl = true) (hb : tl.contains (.type "BaseException") = true) (ho : tl.contains (.type "object") = true)
    (sa : PySem.W.findIn K (.ref C) "__setattr__" = some (some (.builtin "object.__setattr__")))
    (ga : PySem.W.findIn K (.ref C) "__getattribute__" = some (some (.builtin "BaseException.__getattribute__")))
    (gg : PySem.W.findIn K (.ref C) "__getattr__" = some none)
    (ca : PySem.W.findIn K (.ref C) "__class__" = some (some (.builtin "object.__class__"))) : ErrC K C := by
  have m := mrL_mk xL
  have ty : PySem.W.typeIn K (.ref C) = some (.type "type") := by
    show (K.lookup C).map (·.cls) = _
    rw [xL]
    rfl
  have sp : PySem.W.specialIn K (.ref C) "__call__" = some (some (.builtin "type.__call__")) := by
    unfold PySem.W.specialIn
    rw [ty]
    rfl
  have kp : PySem.W.keepIn K (.ref C) = true := by
    unfold PySem.W.keepIn
    dsimp only
    rw [xL]
    show (PySem.W.specialIn K (.ref C) "__call__" == some (some (.builtin "type.__call__"))) = true
    rw [sp]
    exact beq_self_eq_true _
  have cl : PySem.W.clsIn K C = some { name := nm, bases := bs, mro := .ref C :: tl, ns := N, qualname := q, hasDict := true, slotNames := sn, subclasses := sub, abstract := ab, collection := col, hasDel := false } := by
    unfold PySem.W.clsIn
    rw [xL]
  refine ⟨⟨⟨nm, q, N, bs, tl, sn, sub, ab, col, dd, k0, k1, k2, k3, k5, xL, hr⟩, sa, sub_of m _ rfl ?_, ty, kp⟩, ga, gg, ?_, ca, Z.cg, Z.ct, ?_, ?_⟩
  · rw [List.contains_cons, hb, Bool.or_true]
  · unfold PySem.W.hasDictIn
    rw [cl]
    rfl
  · exact sub_of m _ rfl (by rw [List.contains_cons, ho, Bool.or_true])
  · rw [cl]
    rfl
theorem with_glb {K : PySem.W.Frag} {P : Prop} {h : Heap} (X : K.In h) (cg : PySem.W.specialIn K (.builtin "object.__class__") "__get__" = some (some (.builtin "getset_descriptor.__get__")))
    (ct : PySem.W.takesIn K (.builtin "object.__class__") = some true) (k : Glb K → P) : P := k ⟨cg, ct⟩
theorem with_le {K : PySem.W.Frag} {P : Prop} {C N : Addr} {q : Str} {bs : List Value} {sn : List Str} {sub : List Value} {ab : Bool} {col : Option Bool} {dd : Option Addr} {k0 k1 k2 k3 k5 : Option Value} (Z : Glb K)
    (a : PySem.W.nsIn K mainGlobals "LetterError" = some (some (.ref C)))
    (xL : K.lookup C = some (PySem.excClassObj "LetterError" q C N bs veT true sn sub ab col dd k0 k1 k2 k3 k5 "ValueError.__new__"))
    (sa : PySem.W.findIn K (.ref C) "__setattr__" = some (some (.builtin "object.__setattr__")))
    (ga : PySem.W.findIn K (.ref C) "__getattribute__" = some (some (.builtin "BaseException.__getattribute__")))
    (gg : PySem.W.findIn K (.ref C) "__getattr__" = some none)
    (ca : PySem.W.findIn K (.ref C) "__class__" = some (some (.builtin "object.__class__")))
    (x : PySem.W.excIn K C veT "ValueError.__new__" = true) (k : ∀ L : LEAt K, L.C = C → P) : P :=
  k ⟨C, a, errC_mk Z xL rfl rfl rfl sa ga gg ca, mrL_mk xL, x⟩ rfl
theorem with_er (x q : Str) (st : Stmt) (fs : List Str) {K : PySem.W.Frag} {LE LE' : Addr} {P : Prop} {C N fI : Addr} {q' : Str} {bs : List Value} {sn : List Str} {sub : List Value} {ab : Bool} {col : Option Bool} {dd : Option Addr} {k0 k1 k2 k3 k5 : Option Value}
    {od an : Option Addr} {osl : Array (Option Value)} {kV doc pm cdv ct : Value} (Z : Glb K) (hL : LE' = LE)
    (a : PySem.W.nsIn K mainGlobals x = some (some (.ref C)))
    (xL : K.lookup C = some (PySem.excClassObj x q' C N bs (.ref LE :: veT) true sn sub ab col dd k0 k1 k2 k3 k5 "ValueError.__new__"))
    (sa : PySem.W.findIn K (.ref C) "__setattr__" = some (some (.builtin "object.__setattr__")))
    (ga : PySem.W.findIn K (.ref C) "__getattribute__" = some (some (.builtin "BaseException.__getattribute__")))
    (gg : PySem.W.findIn K (.ref C) "__getattr__" = some none)
    (ca : PySem.W.findIn K (.ref C) "__class__" = some (some (.builtin "object.__class__")))
    (ai : PySem.W.findIn K (.ref C) "__init__" = some (some (.ref fI)))
    (li : K.lookup fI = some ⟨.type "function", od, .func (PySem.W.fnOf "__init__" q (defArgs st) (defBody st) (defScope st) .none kV doc pm an cdv ct), osl⟩)
    (ci : PySem.W.codeIn K cdv q = true)
    (nf : ∀ f ∈ fs, PySem.W.findIn K (.ref C) f = some none) (k : EcAt K LE' x q fs st → P) : P := by
  subst hL
  exact k ⟨C, fI, _, a, errC_mk Z xL rfl rfl rfl sa ga gg ca, nf, ai, by show (K.lookup fI).map (·.cls) = _; rw [li]; rfl, fun_mk li ci (by unfold PySem.W.keepIn; dsimp only; rw [li]), mrL_mk xL⟩
theorem with_fn (x : Str) (st : Stmt) {K : PySem.W.Frag} {h : Heap} (X : K.In h) {P : Prop} {f : Addr} {od an : Option Addr} {osl : Array (Option Value)} {kV doc pm cdv ct : Value}
    (a : PySem.W.nsIn K mainGlobals x = some (some (.ref f)))
    (li : K.lookup f = some ⟨.type "function", od, .func (PySem.W.fnOf x x (defArgs st) (defBody st) (defScope st) .none kV doc pm an cdv ct), osl⟩)
    (ci : PySem.W.codeIn K cdv x = true) (k : FnAt K x st → P) : P :=
  k ⟨f, _, a, fun_mk li ci (by unfold PySem.W.keepIn; dsimp only; rw [li])⟩
theorem with_ec (x q : Str) (st : Stmt) (fs : List Str) {K : PySem.W.Frag} {LE : Addr} {P : Prop} {h : Heap} (X : K.In h) (p : Nonempty (EcAt K LE x q fs st)) (k : EcAt K LE x q fs st → P) : P := p.elim k
theorem with_fa (x : Str) (st : Stmt) {K : PySem.W.Frag} {P : Prop} {h : Heap} (X : K.In h) (p : Nonempty (FnAt K x st)) (k : FnAt K x st → P) : P := p.elim k
theorem fs1 {K : PySem.W.Frag} {C : Addr} {f : Str} (h : PySem.W.findIn K (.ref C) f = some none) : ∀ g ∈ [f], PySem.W.findIn K (.ref C) g = some none := by
  intro g hg
  rw [List.mem_singleton.mp hg]
  exact h
theorem fs2 {K : PySem.W.Frag} {C : Addr} {f e : Str} (h : PySem.W.findIn K (.ref C) f = some none) (h2 : PySem.W.findIn K (.ref C) e = some none) : ∀ g ∈ [f, e], PySem.W.findIn K (.ref C) g = some none := by
  intro g hg
  rcases List.mem_cons.mp hg with q | hg
  · rw [q]; exact h
  · rw [List.mem_singleton.mp hg]; exact h2
def EcAt.er1 {K : PySem.W.Frag} {LE : Addr} {x q f : Str} {st : Stmt} (A : EcAt K LE x q [f] st) {h : Heap} {mg : Str → Option Value} (X : K.In h) (G : h.Ns mainGlobals mg) {q1 q2 q3 q4 : Pos} (S : FnScope [("self" : Str), f] [("self" : Str), f] (defScope st)) (hb : defBody st = body1 f q1 q2 q3 q4)
    (v0 : Vis (defScope st) "self") (v1 : Vis (defScope st) f) (n1 : (f == ("__debug__" : Str)) = false) (n2 : (f == ("__classdict__" : Str)) = false)
    (b : ∀ (kV doc pm : Value) (an : Option Addr) (cdv ct : Value) (us : List Value), us.length = 2 → bindArgs (PySem.W.fnOf "__init__" q (defArgs st) (defBody st) (defScope st) .none kV doc pm an cdv ct) ⟨us, []⟩ = pure ([("self" : Str), f].zip us)) : Er1 K mg x f st :=
  ⟨A.C, A.fI, A.fd, PySem.W.mg_of X G A.a, A.T, A.nf f (List.mem_singleton.mpr rfl), A.iC, A.tI, A.F.binds b, ok_init1 A.F S hb v0 v1 n1 n2⟩
def EcAt.er2 {K : PySem.W.Frag} {LE : Addr} {x q f e : Str} {st : Stmt} (A : EcAt K LE x q [f, e] st) {h : Heap} {mg : Str → Option Value} (X : K.In h) (G : h.Ns mainGlobals mg) {q1 q2 q3 q4 p1 p2 p3 p4 : Pos} (S : FnScope [("self" : Str), f, e] [("self" : Str), f, e] (defScope st)) (hb : defBody st = body2 f e q1 q2 q3 q4 p1 p2 p3 p4)
    (v0 : Vis (defScope st) "self") (v1 : Vis (defScope st) f) (v2 : Vis (defScope st) e) (n1 : (f == ("__debug__" : Str)) = false) (n2 : (f == ("__classdict__" : Str)) = false) (m1 : (e == ("__debug__" : Str)) = false) (m2 : (e == ("__classdict__" : Str)) = false)
    (b : ∀ (kV doc pm : Value) (an : Option Addr) (cdv ct : Value) (us : List Value), us.length = 3 → bindArgs (PySem.W.fnOf "__init__" q (defArgs st) (defBody st) (defScope st) .none kV doc pm an cdv ct) ⟨us, []⟩ = pure ([("self" : Str), f, e].zip us)) : Er2 K mg x f e st :=
  ⟨A.C, A.fI, A.fd, PySem.W.mg_of X G A.a, A.T, A.nf f (by simp), A.nf e (by simp), A.iC, A.tI, A.F.binds b, ok_init2 A.F S hb v0 v1 v2 n1 n2 m1 m2⟩
def FnAt.fn {K : PySem.W.Frag} {x : Str} {st : Stmt} (A : FnAt K x st) {h : Heap} {mg : Str → Option Value} (X : K.In h) (G : h.Ns mainGlobals mg) {ps : List Str}
    (b : ∀ (kV doc pm : Value) (an : Option Addr) (cdv ct : Value) (us : List Value), us.length = ps.length → bindArgs (PySem.W.fnOf x x (defArgs st) (defBody st) (defScope st) .none kV doc pm an cdv ct) ⟨us, []⟩ = pure (ps.zip us)) : Fn K mg x st ps :=
  ⟨A.f, A.fd, A.F, PySem.W.mg_of X G A.a, A.F.binds b⟩
/-- what the top has left, all facts together -/
structure All (K : PySem.W.Frag) where
  L : LEAt K
  e_BadBox : EcAt K L.C "BadBox" "BadBox.__init__" ["index", "what"] sI_BadBox
  e_BadChart : EcAt K L.C "BadChart" "BadChart.__init__" ["index", "what"] sI_BadChart
  e_BadText : EcAt K L.C "BadText" "BadText.__init__" ["row", "what"] sI_BadText
  e_BadCounts : EcAt K L.C "BadCounts" "BadCounts.__init__" ["index", "what"] sI_BadCounts
  e_BadSurrounding : EcAt K L.C "BadSurrounding" "BadSurrounding.__init__" ["name", "what"] sI_BadSurrounding
  e_BadTable : EcAt K L.C "BadTable" "BadTable.__init__" ["index", "what"] sI_BadTable
  e_BadShares : EcAt K L.C "BadShares" "BadShares.__init__" ["index", "what"] sI_BadShares
  e_BadWeights : EcAt K L.C "BadWeights" "BadWeights.__init__" ["index", "what"] sI_BadWeights
  e_BadChanges : EcAt K L.C "BadChanges" "BadChanges.__init__" ["index", "what"] sI_BadChanges
  e_BadHouse : EcAt K L.C "BadHouse" "BadHouse.__init__" ["index", "what"] sI_BadHouse
  e_BadFinder : EcAt K L.C "BadFinder" "BadFinder.__init__" ["index", "what"] sI_BadFinder
  e_BadGaps : EcAt K L.C "BadGaps" "BadGaps.__init__" ["index", "what"] sI_BadGaps
  e_BadLook : EcAt K L.C "BadLook" "BadLook.__init__" ["index", "what"] sI_BadLook
  e_BadEdits : EcAt K L.C "BadEdits" "BadEdits.__init__" ["index", "what"] sI_BadEdits
  e_BadRatio : EcAt K L.C "BadRatio" "BadRatio.__init__" ["what"] sI_BadRatio
  e_NoFilling : EcAt K L.C "NoFilling" "NoFilling.__init__" ["thing"] sI_NoFilling
  e_NoSuchBox : EcAt K L.C "NoSuchBox" "NoSuchBox.__init__" ["index"] sI_NoSuchBox
  e_NoWire : EcAt K L.C "NoWire" "NoWire.__init__" ["name"] sI_NoWire
  e_BadIns : EcAt K L.C "BadIns" "BadIns.__init__" ["index"] sI_BadIns
  e_BadPost : EcAt K L.C "BadPost" "BadPost.__init__" ["index"] sI_BadPost
  e_ChanceBox : EcAt K L.C "ChanceBox" "ChanceBox.__init__" ["index"] sI_ChanceBox
  e_BadNaming : EcAt K L.C "BadNaming" "BadNaming.__init__" ["index"] sI_BadNaming
  e_BadOrder : EcAt K L.C "BadOrder" "BadOrder.__init__" ["order"] sI_BadOrder
  e_BadDays : EcAt K L.C "BadDays" "BadDays.__init__" ["days"] sI_BadDays
  e_TooMany : EcAt K L.C "TooMany" "TooMany.__init__" ["most"] sI_TooMany
  e_NoStory : EcAt K L.C "NoStory" "NoStory.__init__" ["thing"] sI_NoStory
  e_HasStory : EcAt K L.C "HasStory" "HasStory.__init__" ["filling"] sI_HasStory
  e_NoLetter : EcAt K L.C "NoLetter" "NoLetter.__init__" ["name"] sI_NoLetter
  e_OtherWires : EcAt K L.C "OtherWires" "OtherWires.__init__" ["what"] sI_OtherWires
  e_NoBox : EcAt K L.C "NoBox" "NoBox.__init__" ["what"] sI_NoBox
  e_BadLot : EcAt K L.C "BadLot" "BadLot.__init__" ["index"] sI_BadLot
  e_NoRing : EcAt K L.C "NoRing" "NoRing.__init__" ["lot"] sI_NoRing
  e_BadTurns : EcAt K L.C "BadTurns" "BadTurns.__init__" ["turns"] sI_BadTurns
  e_NotStaying : EcAt K L.C "NotStaying" "NotStaying.__init__" ["post"] sI_NotStaying
  e_BadOuts : EcAt K L.C "BadOuts" "BadOuts.__init__" ["outs"] sI_BadOuts
  e_BadShare : EcAt K L.C "BadShare" "BadShare.__init__" ["share"] sI_BadShare
  e_BadSlip : EcAt K L.C "BadSlip" "BadSlip.__init__" ["slip"] sI_BadSlip
  e_BadNear : EcAt K L.C "BadNear" "BadNear.__init__" ["within"] sI_BadNear
  e_BadTold : EcAt K L.C "BadTold" "BadTold.__init__" ["index"] sI_BadTold
  e_BadNames : EcAt K L.C "BadNames" "BadNames.__init__" ["index"] sI_BadNames
  e_NotKnown : EcAt K L.C "NotKnown" "NotKnown.__init__" ["name"] sI_NotKnown
  e_NotMade : EcAt K L.C "NotMade" "NotMade.__init__" ["name"] sI_NotMade
  e_NotLeft : EcAt K L.C "NotLeft" "NotLeft.__init__" ["worth"] sI_NotLeft
  e_NoKey : EcAt K L.C "NoKey" "NoKey.__init__" ["filling"] sI_NoKey
  e_BadCustom : EcAt K L.C "BadCustom" "BadCustom.__init__" ["custom"] sI_BadCustom
  e_BadWish : EcAt K L.C "BadWish" "BadWish.__init__" ["what"] sI_BadWish
  e_NotOneBox : EcAt K L.C "NotOneBox" "NotOneBox.__init__" ["what"] sI_NotOneBox
  e_BadHand : EcAt K L.C "BadHand" "BadHand.__init__" ["hand"] sI_BadHand
  e_BadLetter : EcAt K L.C "BadLetter" "BadLetter.__init__" ["letter"] sI_BadLetter
  e_BadExchange : EcAt K L.C "BadExchange" "BadExchange.__init__" ["what"] sI_BadExchange
  e_BadDay : EcAt K L.C "BadDay" "BadDay.__init__" ["day"] sI_BadDay
  e_NoDayStory : EcAt K L.C "NoDayStory" "NoDayStory.__init__" ["number"] sI_NoDayStory
  e_BadRound : EcAt K L.C "BadRound" "BadRound.__init__" ["what"] sI_BadRound
  e_OtherLetters : EcAt K L.C "OtherLetters" "OtherLetters.__init__" ["size"] sI_OtherLetters
  e_NotIn : EcAt K L.C "NotIn" "NotIn.__init__" ["name"] sI_NotIn
  e_BadManner : EcAt K L.C "BadManner" "BadManner.__init__" ["manner"] sI_BadManner
  e_BadPool : EcAt K L.C "BadPool" "BadPool.__init__" ["index"] sI_BadPool
  e_BadGoal : EcAt K L.C "BadGoal" "BadGoal.__init__" ["what"] sI_BadGoal
  e_NothingLeft : EcAt K L.C "NothingLeft" "NothingLeft.__init__" ["many"] sI_NothingLeft
  e_StillTrial : EcAt K L.C "StillTrial" "StillTrial.__init__" ["deeds"] sI_StillTrial
  f_law_hand : FnAt K "_law_hand" s_law_hand
  f_law_mixed : FnAt K "_law_mixed" s_law_mixed
  f_law_take : FnAt K "_law_take" s_law_take
  f_law_pairs : FnAt K "_law_pairs" s_law_pairs
  f_law_first : FnAt K "_law_first" s_law_first
  f_law_second : FnAt K "_law_second" s_law_second
  f_law_kinds : FnAt K "_law_kinds" s_law_kinds
  f_law : FnAt K "law" slaw
  n_len : PySem.W.nsIn K mainGlobals "len" = some none
  n_abs : PySem.W.nsIn K mainGlobals "abs" = some none
  n_int : PySem.W.nsIn K mainGlobals "int" = some none
  n_range : PySem.W.nsIn K mainGlobals "range" = some none
  n_isinstance : PySem.W.nsIn K mainGlobals "isinstance" = some none
  n_ValueError : PySem.W.nsIn K mainGlobals "ValueError" = some none
section
variable {K : PySem.W.Frag} {LE : Addr} {h : Heap} {mg : Str → Option Value}
def mk_BadBox (A : EcAt K LE "BadBox" "BadBox.__init__" ["index", "what"] sI_BadBox) (X : K.In h) (G : h.Ns mainGlobals mg) : Er2 K mg "BadBox" "index" "what" sI_BadBox :=
  A.er2 X G ⟨rfl, rfl, rfl, by decide +kernel, rfl, by decide +kernel, by decide +kernel⟩ rfl (.inl rfl) (.inl rfl) (.inl rfl) (by decide) (by decide) (by decide) (by decide) fun _ _ _ _ _ _ us hl => match us, hl with | [_, _, _], _ => rfl
def mk_BadChart (A : EcAt K LE "BadChart" "BadChart.__init__" ["index", "what"] sI_BadChart) (X : K.In h) (G : h.Ns mainGlobals mg) : Er2 K mg "BadChart" "index" "what" sI_BadChart :=
  A.er2 X G ⟨rfl, rfl, rfl, by decide +kernel, rfl, by decide +kernel, by decide +kernel⟩ rfl (.inl rfl) (.inl rfl) (.inl rfl) (by decide) (by decide) (by decide) (by decide) fun _ _ _ _ _ _ us hl => match us, hl with | [_, _, _], _ => rfl
def mk_BadText (A : EcAt K LE "BadText" "BadText.__init__" ["row", "what"] sI_BadText) (X : K.In h) (G : h.Ns mainGlobals mg) : Er2 K mg "BadText" "row" "what" sI_BadText :=
  A.er2 X G ⟨rfl, rfl, rfl, by decide +kernel, rfl, by decide +kernel, by decide +kernel⟩ rfl (.inl rfl) (.inl rfl) (.inl rfl) (by decide) (by decide) (by decide) (by decide) fun _ _ _ _ _ _ us hl => match us, hl with | [_, _, _], _ => rfl
def mk_BadCounts (A : EcAt K LE "BadCounts" "BadCounts.__init__" ["index", "what"] sI_BadCounts) (X : K.In h) (G : h.Ns mainGlobals mg) : Er2 K mg "BadCounts" "index" "what" sI_BadCounts :=
  A.er2 X G ⟨rfl, rfl, rfl, by decide +kernel, rfl, by decide +kernel, by decide +kernel⟩ rfl (.inl rfl) (.inl rfl) (.inl rfl) (by decide) (by decide) (by decide) (by decide) fun _ _ _ _ _ _ us hl => match us, hl with | [_, _, _], _ => rfl
def mk_BadSurrounding (A : EcAt K LE "BadSurrounding" "BadSurrounding.__init__" ["name", "what"] sI_BadSurrounding) (X : K.In h) (G : h.Ns mainGlobals mg) : Er2 K mg "BadSurrounding" "name" "what" sI_BadSurrounding :=
  A.er2 X G ⟨rfl, rfl, rfl, by decide +kernel, rfl, by decide +kernel, by decide +kernel⟩ rfl (.inl rfl) (.inl rfl) (.inl rfl) (by decide) (by decide) (by decide) (by decide) fun _ _ _ _ _ _ us hl => match us, hl with | [_, _, _], _ => rfl
def mk_BadTable (A : EcAt K LE "BadTable" "BadTable.__init__" ["index", "what"] sI_BadTable) (X : K.In h) (G : h.Ns mainGlobals mg) : Er2 K mg "BadTable" "index" "what" sI_BadTable :=
  A.er2 X G ⟨rfl, rfl, rfl, by decide +kernel, rfl, by decide +kernel, by decide +kernel⟩ rfl (.inl rfl) (.inl rfl) (.inl rfl) (by decide) (by decide) (by decide) (by decide) fun _ _ _ _ _ _ us hl => match us, hl with | [_, _, _], _ => rfl
def mk_BadShares (A : EcAt K LE "BadShares" "BadShares.__init__" ["index", "what"] sI_BadShares) (X : K.In h) (G : h.Ns mainGlobals mg) : Er2 K mg "BadShares" "index" "what" sI_BadShares :=
  A.er2 X G ⟨rfl, rfl, rfl, by decide +kernel, rfl, by decide +kernel, by decide +kernel⟩ rfl (.inl rfl) (.inl rfl) (.inl rfl) (by decide) (by decide) (by decide) (by decide) fun _ _ _ _ _ _ us hl => match us, hl with | [_, _, _], _ => rfl
def mk_BadWeights (A : EcAt K LE "BadWeights" "BadWeights.__init__" ["index", "what"] sI_BadWeights) (X : K.In h) (G : h.Ns mainGlobals mg) : Er2 K mg "BadWeights" "index" "what" sI_BadWeights :=
  A.er2 X G ⟨rfl, rfl, rfl, by decide +kernel, rfl, by decide +kernel, by decide +kernel⟩ rfl (.inl rfl) (.inl rfl) (.inl rfl) (by decide) (by decide) (by decide) (by decide) fun _ _ _ _ _ _ us hl => match us, hl with | [_, _, _], _ => rfl
def mk_BadChanges (A : EcAt K LE "BadChanges" "BadChanges.__init__" ["index", "what"] sI_BadChanges) (X : K.In h) (G : h.Ns mainGlobals mg) : Er2 K mg "BadChanges" "index" "what" sI_BadChanges :=
  A.er2 X G ⟨rfl, rfl, rfl, by decide +kernel, rfl, by decide +kernel, by decide +kernel⟩ rfl (.inl rfl) (.inl rfl) (.inl rfl) (by decide) (by decide) (by decide) (by decide) fun _ _ _ _ _ _ us hl => match us, hl with | [_, _, _], _ => rfl
def mk_BadHouse (A : EcAt K LE "BadHouse" "BadHouse.__init__" ["index", "what"] sI_BadHouse) (X : K.In h) (G : h.Ns mainGlobals mg) : Er2 K mg "BadHouse" "index" "what" sI_BadHouse :=
  A.er2 X G ⟨rfl, rfl, rfl, by decide +kernel, rfl, by decide +kernel, by decide +kernel⟩ rfl (.inl rfl) (.inl rfl) (.inl rfl) (by decide) (by decide) (by decide) (by decide) fun _ _ _ _ _ _ us hl => match us, hl with | [_, _, _], _ => rfl
def mk_BadFinder (A : EcAt K LE "BadFinder" "BadFinder.__init__" ["index", "what"] sI_BadFinder) (X : K.In h) (G : h.Ns mainGlobals mg) : Er2 K mg "BadFinder" "index" "what" sI_BadFinder :=
  A.er2 X G ⟨rfl, rfl, rfl, by decide +kernel, rfl, by decide +kernel, by decide +kernel⟩ rfl (.inl rfl) (.inl rfl) (.inl rfl) (by decide) (by decide) (by decide) (by decide) fun _ _ _ _ _ _ us hl => match us, hl with | [_, _, _], _ => rfl
def mk_BadGaps (A : EcAt K LE "BadGaps" "BadGaps.__init__" ["index", "what"] sI_BadGaps) (X : K.In h) (G : h.Ns mainGlobals mg) : Er2 K mg "BadGaps" "index" "what" sI_BadGaps :=
  A.er2 X G ⟨rfl, rfl, rfl, by decide +kernel, rfl, by decide +kernel, by decide +kernel⟩ rfl (.inl rfl) (.inl rfl) (.inl rfl) (by decide) (by decide) (by decide) (by decide) fun _ _ _ _ _ _ us hl => match us, hl with | [_, _, _], _ => rfl
def mk_BadLook (A : EcAt K LE "BadLook" "BadLook.__init__" ["index", "what"] sI_BadLook) (X : K.In h) (G : h.Ns mainGlobals mg) : Er2 K mg "BadLook" "index" "what" sI_BadLook :=
  A.er2 X G ⟨rfl, rfl, rfl, by decide +kernel, rfl, by decide +kernel, by decide +kernel⟩ rfl (.inl rfl) (.inl rfl) (.inl rfl) (by decide) (by decide) (by decide) (by decide) fun _ _ _ _ _ _ us hl => match us, hl with | [_, _, _], _ => rfl
def mk_BadEdits (A : EcAt K LE "BadEdits" "BadEdits.__init__" ["index", "what"] sI_BadEdits) (X : K.In h) (G : h.Ns mainGlobals mg) : Er2 K mg "BadEdits" "index" "what" sI_BadEdits :=
  A.er2 X G ⟨rfl, rfl, rfl, by decide +kernel, rfl, by decide +kernel, by decide +kernel⟩ rfl (.inl rfl) (.inl rfl) (.inl rfl) (by decide) (by decide) (by decide) (by decide) fun _ _ _ _ _ _ us hl => match us, hl with | [_, _, _], _ => rfl
def mk_BadRatio (A : EcAt K LE "BadRatio" "BadRatio.__init__" ["what"] sI_BadRatio) (X : K.In h) (G : h.Ns mainGlobals mg) : Er1 K mg "BadRatio" "what" sI_BadRatio :=
  A.er1 X G ⟨rfl, rfl, rfl, by decide +kernel, rfl, by decide +kernel, by decide +kernel⟩ rfl (.inl rfl) (.inl rfl) (by decide) (by decide) fun _ _ _ _ _ _ us hl => match us, hl with | [_, _], _ => rfl
def mk_NoFilling (A : EcAt K LE "NoFilling" "NoFilling.__init__" ["thing"] sI_NoFilling) (X : K.In h) (G : h.Ns mainGlobals mg) : Er1 K mg "NoFilling" "thing" sI_NoFilling :=
  A.er1 X G ⟨rfl, rfl, rfl, by decide +kernel, rfl, by decide +kernel, by decide +kernel⟩ rfl (.inl rfl) (.inl rfl) (by decide) (by decide) fun _ _ _ _ _ _ us hl => match us, hl with | [_, _], _ => rfl
def mk_NoSuchBox (A : EcAt K LE "NoSuchBox" "NoSuchBox.__init__" ["index"] sI_NoSuchBox) (X : K.In h) (G : h.Ns mainGlobals mg) : Er1 K mg "NoSuchBox" "index" sI_NoSuchBox :=
  A.er1 X G ⟨rfl, rfl, rfl, by decide +kernel, rfl, by decide +kernel, by decide +kernel⟩ rfl (.inl rfl) (.inl rfl) (by decide) (by decide) fun _ _ _ _ _ _ us hl => match us, hl with | [_, _], _ => rfl
def mk_NoWire (A : EcAt K LE "NoWire" "NoWire.__init__" ["name"] sI_NoWire) (X : K.In h) (G : h.Ns mainGlobals mg) : Er1 K mg "NoWire" "name" sI_NoWire :=
  A.er1 X G ⟨rfl, rfl, rfl, by decide +kernel, rfl, by decide +kernel, by decide +kernel⟩ rfl (.inl rfl) (.inl rfl) (by decide) (by decide) fun _ _ _ _ _ _ us hl => match us, hl with | [_, _], _ => rfl
def mk_BadIns (A : EcAt K LE "BadIns" "BadIns.__init__" ["index"] sI_BadIns) (X : K.In h) (G : h.Ns mainGlobals mg) : Er1 K mg "BadIns" "index" sI_BadIns :=
  A.er1 X G ⟨rfl, rfl, rfl, by decide +kernel, rfl, by decide +kernel, by decide +kernel⟩ rfl (.inl rfl) (.inl rfl) (by decide) (by decide) fun _ _ _ _ _ _ us hl => match us, hl with | [_, _], _ => rfl
def mk_BadPost (A : EcAt K LE "BadPost" "BadPost.__init__" ["index"] sI_BadPost) (X : K.In h) (G : h.Ns mainGlobals mg) : Er1 K mg "BadPost" "index" sI_BadPost :=
  A.er1 X G ⟨rfl, rfl, rfl, by decide +kernel, rfl, by decide +kernel, by decide +kernel⟩ rfl (.inl rfl) (.inl rfl) (by decide) (by decide) fun _ _ _ _ _ _ us hl => match us, hl with | [_, _], _ => rfl
def mk_ChanceBox (A : EcAt K LE "ChanceBox" "ChanceBox.__init__" ["index"] sI_ChanceBox) (X : K.In h) (G : h.Ns mainGlobals mg) : Er1 K mg "ChanceBox" "index" sI_ChanceBox :=
  A.er1 X G ⟨rfl, rfl, rfl, by decide +kernel, rfl, by decide +kernel, by decide +kernel⟩ rfl (.inl rfl) (.inl rfl) (by decide) (by decide) fun _ _ _ _ _ _ us hl => match us, hl with | [_, _], _ => rfl
def mk_BadNaming (A : EcAt K LE "BadNaming" "BadNaming.__init__" ["index"] sI_BadNaming) (X : K.In h) (G : h.Ns mainGlobals mg) : Er1 K mg "BadNaming" "index" sI_BadNaming :=
  A.er1 X G ⟨rfl, rfl, rfl, by decide +kernel, rfl, by decide +kernel, by decide +kernel⟩ rfl (.inl rfl) (.inl rfl) (by decide) (by decide) fun _ _ _ _ _ _ us hl => match us, hl with | [_, _], _ => rfl
def mk_BadOrder (A : EcAt K LE "BadOrder" "BadOrder.__init__" ["order"] sI_BadOrder) (X : K.In h) (G : h.Ns mainGlobals mg) : Er1 K mg "BadOrder" "order" sI_BadOrder :=
  A.er1 X G ⟨rfl, rfl, rfl, by decide +kernel, rfl, by decide +kernel, by decide +kernel⟩ rfl (.inl rfl) (.inl rfl) (by decide) (by decide) fun _ _ _ _ _ _ us hl => match us, hl with | [_, _], _ => rfl
def mk_BadDays (A : EcAt K LE "BadDays" "BadDays.__init__" ["days"] sI_BadDays) (X : K.In h) (G : h.Ns mainGlobals mg) : Er1 K mg "BadDays" "days" sI_BadDays :=
  A.er1 X G ⟨rfl, rfl, rfl, by decide +kernel, rfl, by decide +kernel, by decide +kernel⟩ rfl (.inl rfl) (.inl rfl) (by decide) (by decide) fun _ _ _ _ _ _ us hl => match us, hl with | [_, _], _ => rfl
def mk_TooMany (A : EcAt K LE "TooMany" "TooMany.__init__" ["most"] sI_TooMany) (X : K.In h) (G : h.Ns mainGlobals mg) : Er1 K mg "TooMany" "most" sI_TooMany :=
  A.er1 X G ⟨rfl, rfl, rfl, by decide +kernel, rfl, by decide +kernel, by decide +kernel⟩ rfl (.inl rfl) (.inl rfl) (by decide) (by decide) fun _ _ _ _ _ _ us hl => match us, hl with | [_, _], _ => rfl
def mk_NoStory (A : EcAt K LE "NoStory" "NoStory.__init__" ["thing"] sI_NoStory) (X : K.In h) (G : h.Ns mainGlobals mg) : Er1 K mg "NoStory" "thing" sI_NoStory :=
  A.er1 X G ⟨rfl, rfl, rfl, by decide +kernel, rfl, by decide +kernel, by decide +kernel⟩ rfl (.inl rfl) (.inl rfl) (by decide) (by decide) fun _ _ _ _ _ _ us hl => match us, hl with | [_, _], _ => rfl
def mk_HasStory (A : EcAt K LE "HasStory" "HasStory.__init__" ["filling"] sI_HasStory) (X : K.In h) (G : h.Ns mainGlobals mg) : Er1 K mg "HasStory" "filling" sI_HasStory :=
  A.er1 X G ⟨rfl, rfl, rfl, by decide +kernel, rfl, by decide +kernel, by decide +kernel⟩ rfl (.inl rfl) (.inl rfl) (by decide) (by decide) fun _ _ _ _ _ _ us hl => match us, hl with | [_, _], _ => rfl
def mk_NoLetter (A : EcAt K LE "NoLetter" "NoLetter.__init__" ["name"] sI_NoLetter) (X : K.In h) (G : h.Ns mainGlobals mg) : Er1 K mg "NoLetter" "name" sI_NoLetter :=
  A.er1 X G ⟨rfl, rfl, rfl, by decide +kernel, rfl, by decide +kernel, by decide +kernel⟩ rfl (.inl rfl) (.inl rfl) (by decide) (by decide) fun _ _ _ _ _ _ us hl => match us, hl with | [_, _], _ => rfl
def mk_OtherWires (A : EcAt K LE "OtherWires" "OtherWires.__init__" ["what"] sI_OtherWires) (X : K.In h) (G : h.Ns mainGlobals mg) : Er1 K mg "OtherWires" "what" sI_OtherWires :=
  A.er1 X G ⟨rfl, rfl, rfl, by decide +kernel, rfl, by decide +kernel, by decide +kernel⟩ rfl (.inl rfl) (.inl rfl) (by decide) (by decide) fun _ _ _ _ _ _ us hl => match us, hl with | [_, _], _ => rfl
def mk_NoBox (A : EcAt K LE "NoBox" "NoBox.__init__" ["what"] sI_NoBox) (X : K.In h) (G : h.Ns mainGlobals mg) : Er1 K mg "NoBox" "what" sI_NoBox :=
  A.er1 X G ⟨rfl, rfl, rfl, by decide +kernel, rfl, by decide +kernel, by decide +kernel⟩ rfl (.inl rfl) (.inl rfl) (by decide) (by decide) fun _ _ _ _ _ _ us hl => match us, hl with | [_, _], _ => rfl
def mk_BadLot (A : EcAt K LE "BadLot" "BadLot.__init__" ["index"] sI_BadLot) (X : K.In h) (G : h.Ns mainGlobals mg) : Er1 K mg "BadLot" "index" sI_BadLot :=
  A.er1 X G ⟨rfl, rfl, rfl, by decide +kernel, rfl, by decide +kernel, by decide +kernel⟩ rfl (.inl rfl) (.inl rfl) (by decide) (by decide) fun _ _ _ _ _ _ us hl => match us, hl with | [_, _], _ => rfl
def mk_NoRing (A : EcAt K LE "NoRing" "NoRing.__init__" ["lot"] sI_NoRing) (X : K.In h) (G : h.Ns mainGlobals mg) : Er1 K mg "NoRing" "lot" sI_NoRing :=
  A.er1 X G ⟨rfl, rfl, rfl, by decide +kernel, rfl, by decide +kernel, by decide +kernel⟩ rfl (.inl rfl) (.inl rfl) (by decide) (by decide) fun _ _ _ _ _ _ us hl => match us, hl with | [_, _], _ => rfl
def mk_BadTurns (A : EcAt K LE "BadTurns" "BadTurns.__init__" ["turns"] sI_BadTurns) (X : K.In h) (G : h.Ns mainGlobals mg) : Er1 K mg "BadTurns" "turns" sI_BadTurns :=
  A.er1 X G ⟨rfl, rfl, rfl, by decide +kernel, rfl, by decide +kernel, by decide +kernel⟩ rfl (.inl rfl) (.inl rfl) (by decide) (by decide) fun _ _ _ _ _ _ us hl => match us, hl with | [_, _], _ => rfl
def mk_NotStaying (A : EcAt K LE "NotStaying" "NotStaying.__init__" ["post"] sI_NotStaying) (X : K.In h) (G : h.Ns mainGlobals mg) : Er1 K mg "NotStaying" "post" sI_NotStaying :=
  A.er1 X G ⟨rfl, rfl, rfl, by decide +kernel, rfl, by decide +kernel, by decide +kernel⟩ rfl (.inl rfl) (.inl rfl) (by decide) (by decide) fun _ _ _ _ _ _ us hl => match us, hl with | [_, _], _ => rfl
def mk_BadOuts (A : EcAt K LE "BadOuts" "BadOuts.__init__" ["outs"] sI_BadOuts) (X : K.In h) (G : h.Ns mainGlobals mg) : Er1 K mg "BadOuts" "outs" sI_BadOuts :=
  A.er1 X G ⟨rfl, rfl, rfl, by decide +kernel, rfl, by decide +kernel, by decide +kernel⟩ rfl (.inl rfl) (.inl rfl) (by decide) (by decide) fun _ _ _ _ _ _ us hl => match us, hl with | [_, _], _ => rfl
def mk_BadShare (A : EcAt K LE "BadShare" "BadShare.__init__" ["share"] sI_BadShare) (X : K.In h) (G : h.Ns mainGlobals mg) : Er1 K mg "BadShare" "share" sI_BadShare :=
  A.er1 X G ⟨rfl, rfl, rfl, by decide +kernel, rfl, by decide +kernel, by decide +kernel⟩ rfl (.inl rfl) (.inl rfl) (by decide) (by decide) fun _ _ _ _ _ _ us hl => match us, hl with | [_, _], _ => rfl
def mk_BadSlip (A : EcAt K LE "BadSlip" "BadSlip.__init__" ["slip"] sI_BadSlip) (X : K.In h) (G : h.Ns mainGlobals mg) : Er1 K mg "BadSlip" "slip" sI_BadSlip :=
  A.er1 X G ⟨rfl, rfl, rfl, by decide +kernel, rfl, by decide +kernel, by decide +kernel⟩ rfl (.inl rfl) (.inl rfl) (by decide) (by decide) fun _ _ _ _ _ _ us hl => match us, hl with | [_, _], _ => rfl
def mk_BadNear (A : EcAt K LE "BadNear" "BadNear.__init__" ["within"] sI_BadNear) (X : K.In h) (G : h.Ns mainGlobals mg) : Er1 K mg "BadNear" "within" sI_BadNear :=
  A.er1 X G ⟨rfl, rfl, rfl, by decide +kernel, rfl, by decide +kernel, by decide +kernel⟩ rfl (.inl rfl) (.inl rfl) (by decide) (by decide) fun _ _ _ _ _ _ us hl => match us, hl with | [_, _], _ => rfl
def mk_BadTold (A : EcAt K LE "BadTold" "BadTold.__init__" ["index"] sI_BadTold) (X : K.In h) (G : h.Ns mainGlobals mg) : Er1 K mg "BadTold" "index" sI_BadTold :=
  A.er1 X G ⟨rfl, rfl, rfl, by decide +kernel, rfl, by decide +kernel, by decide +kernel⟩ rfl (.inl rfl) (.inl rfl) (by decide) (by decide) fun _ _ _ _ _ _ us hl => match us, hl with | [_, _], _ => rfl
def mk_BadNames (A : EcAt K LE "BadNames" "BadNames.__init__" ["index"] sI_BadNames) (X : K.In h) (G : h.Ns mainGlobals mg) : Er1 K mg "BadNames" "index" sI_BadNames :=
  A.er1 X G ⟨rfl, rfl, rfl, by decide +kernel, rfl, by decide +kernel, by decide +kernel⟩ rfl (.inl rfl) (.inl rfl) (by decide) (by decide) fun _ _ _ _ _ _ us hl => match us, hl with | [_, _], _ => rfl
def mk_NotKnown (A : EcAt K LE "NotKnown" "NotKnown.__init__" ["name"] sI_NotKnown) (X : K.In h) (G : h.Ns mainGlobals mg) : Er1 K mg "NotKnown" "name" sI_NotKnown :=
  A.er1 X G ⟨rfl, rfl, rfl, by decide +kernel, rfl, by decide +kernel, by decide +kernel⟩ rfl (.inl rfl) (.inl rfl) (by decide) (by decide) fun _ _ _ _ _ _ us hl => match us, hl with | [_, _], _ => rfl
def mk_NotMade (A : EcAt K LE "NotMade" "NotMade.__init__" ["name"] sI_NotMade) (X : K.In h) (G : h.Ns mainGlobals mg) : Er1 K mg "NotMade" "name" sI_NotMade :=
  A.er1 X G ⟨rfl, rfl, rfl, by decide +kernel, rfl, by decide +kernel, by decide +kernel⟩ rfl (.inl rfl) (.inl rfl) (by decide) (by decide) fun _ _ _ _ _ _ us hl => match us, hl with | [_, _], _ => rfl
def mk_NotLeft (A : EcAt K LE "NotLeft" "NotLeft.__init__" ["worth"] sI_NotLeft) (X : K.In h) (G : h.Ns mainGlobals mg) : Er1 K mg "NotLeft" "worth" sI_NotLeft :=
  A.er1 X G ⟨rfl, rfl, rfl, by decide +kernel, rfl, by decide +kernel, by decide +kernel⟩ rfl (.inl rfl) (.inl rfl) (by decide) (by decide) fun _ _ _ _ _ _ us hl => match us, hl with | [_, _], _ => rfl
def mk_NoKey (A : EcAt K LE "NoKey" "NoKey.__init__" ["filling"] sI_NoKey) (X : K.In h) (G : h.Ns mainGlobals mg) : Er1 K mg "NoKey" "filling" sI_NoKey :=
  A.er1 X G ⟨rfl, rfl, rfl, by decide +kernel, rfl, by decide +kernel, by decide +kernel⟩ rfl (.inl rfl) (.inl rfl) (by decide) (by decide) fun _ _ _ _ _ _ us hl => match us, hl with | [_, _], _ => rfl
def mk_BadCustom (A : EcAt K LE "BadCustom" "BadCustom.__init__" ["custom"] sI_BadCustom) (X : K.In h) (G : h.Ns mainGlobals mg) : Er1 K mg "BadCustom" "custom" sI_BadCustom :=
  A.er1 X G ⟨rfl, rfl, rfl, by decide +kernel, rfl, by decide +kernel, by decide +kernel⟩ rfl (.inl rfl) (.inl rfl) (by decide) (by decide) fun _ _ _ _ _ _ us hl => match us, hl with | [_, _], _ => rfl
def mk_BadWish (A : EcAt K LE "BadWish" "BadWish.__init__" ["what"] sI_BadWish) (X : K.In h) (G : h.Ns mainGlobals mg) : Er1 K mg "BadWish" "what" sI_BadWish :=
  A.er1 X G ⟨rfl, rfl, rfl, by decide +kernel, rfl, by decide +kernel, by decide +kernel⟩ rfl (.inl rfl) (.inl rfl) (by decide) (by decide) fun _ _ _ _ _ _ us hl => match us, hl with | [_, _], _ => rfl
def mk_NotOneBox (A : EcAt K LE "NotOneBox" "NotOneBox.__init__" ["what"] sI_NotOneBox) (X : K.In h) (G : h.Ns mainGlobals mg) : Er1 K mg "NotOneBox" "what" sI_NotOneBox :=
  A.er1 X G ⟨rfl, rfl, rfl, by decide +kernel, rfl, by decide +kernel, by decide +kernel⟩ rfl (.inl rfl) (.inl rfl) (by decide) (by decide) fun _ _ _ _ _ _ us hl => match us, hl with | [_, _], _ => rfl
def mk_BadHand (A : EcAt K LE "BadHand" "BadHand.__init__" ["hand"] sI_BadHand) (X : K.In h) (G : h.Ns mainGlobals mg) : Er1 K mg "BadHand" "hand" sI_BadHand :=
  A.er1 X G ⟨rfl, rfl, rfl, by decide +kernel, rfl, by decide +kernel, by decide +kernel⟩ rfl (.inl rfl) (.inl rfl) (by decide) (by decide) fun _ _ _ _ _ _ us hl => match us, hl with | [_, _], _ => rfl
def mk_BadLetter (A : EcAt K LE "BadLetter" "BadLetter.__init__" ["letter"] sI_BadLetter) (X : K.In h) (G : h.Ns mainGlobals mg) : Er1 K mg "BadLetter" "letter" sI_BadLetter :=
  A.er1 X G ⟨rfl, rfl, rfl, by decide +kernel, rfl, by decide +kernel, by decide +kernel⟩ rfl (.inl rfl) (.inl rfl) (by decide) (by decide) fun _ _ _ _ _ _ us hl => match us, hl with | [_, _], _ => rfl
def mk_BadExchange (A : EcAt K LE "BadExchange" "BadExchange.__init__" ["what"] sI_BadExchange) (X : K.In h) (G : h.Ns mainGlobals mg) : Er1 K mg "BadExchange" "what" sI_BadExchange :=
  A.er1 X G ⟨rfl, rfl, rfl, by decide +kernel, rfl, by decide +kernel, by decide +kernel⟩ rfl (.inl rfl) (.inl rfl) (by decide) (by decide) fun _ _ _ _ _ _ us hl => match us, hl with | [_, _], _ => rfl
def mk_BadDay (A : EcAt K LE "BadDay" "BadDay.__init__" ["day"] sI_BadDay) (X : K.In h) (G : h.Ns mainGlobals mg) : Er1 K mg "BadDay" "day" sI_BadDay :=
  A.er1 X G ⟨rfl, rfl, rfl, by decide +kernel, rfl, by decide +kernel, by decide +kernel⟩ rfl (.inl rfl) (.inl rfl) (by decide) (by decide) fun _ _ _ _ _ _ us hl => match us, hl with | [_, _], _ => rfl
def mk_NoDayStory (A : EcAt K LE "NoDayStory" "NoDayStory.__init__" ["number"] sI_NoDayStory) (X : K.In h) (G : h.Ns mainGlobals mg) : Er1 K mg "NoDayStory" "number" sI_NoDayStory :=
  A.er1 X G ⟨rfl, rfl, rfl, by decide +kernel, rfl, by decide +kernel, by decide +kernel⟩ rfl (.inl rfl) (.inl rfl) (by decide) (by decide) fun _ _ _ _ _ _ us hl => match us, hl with | [_, _], _ => rfl
def mk_BadRound (A : EcAt K LE "BadRound" "BadRound.__init__" ["what"] sI_BadRound) (X : K.In h) (G : h.Ns mainGlobals mg) : Er1 K mg "BadRound" "what" sI_BadRound :=
  A.er1 X G ⟨rfl, rfl, rfl, by decide +kernel, rfl, by decide +kernel, by decide +kernel⟩ rfl (.inl rfl) (.inl rfl) (by decide) (by decide) fun _ _ _ _ _ _ us hl => match us, hl with | [_, _], _ => rfl
def mk_OtherLetters (A : EcAt K LE "OtherLetters" "OtherLetters.__init__" ["size"] sI_OtherLetters) (X : K.In h) (G : h.Ns mainGlobals mg) : Er1 K mg "OtherLetters" "size" sI_OtherLetters :=
  A.er1 X G ⟨rfl, rfl, rfl, by decide +kernel, rfl, by decide +kernel, by decide +kernel⟩ rfl (.inl rfl) (.inl rfl) (by decide) (by decide) fun _ _ _ _ _ _ us hl => match us, hl with | [_, _], _ => rfl
def mk_NotIn (A : EcAt K LE "NotIn" "NotIn.__init__" ["name"] sI_NotIn) (X : K.In h) (G : h.Ns mainGlobals mg) : Er1 K mg "NotIn" "name" sI_NotIn :=
  A.er1 X G ⟨rfl, rfl, rfl, by decide +kernel, rfl, by decide +kernel, by decide +kernel⟩ rfl (.inl rfl) (.inl rfl) (by decide) (by decide) fun _ _ _ _ _ _ us hl => match us, hl with | [_, _], _ => rfl
def mk_BadManner (A : EcAt K LE "BadManner" "BadManner.__init__" ["manner"] sI_BadManner) (X : K.In h) (G : h.Ns mainGlobals mg) : Er1 K mg "BadManner" "manner" sI_BadManner :=
  A.er1 X G ⟨rfl, rfl, rfl, by decide +kernel, rfl, by decide +kernel, by decide +kernel⟩ rfl (.inl rfl) (.inl rfl) (by decide) (by decide) fun _ _ _ _ _ _ us hl => match us, hl with | [_, _], _ => rfl
def mk_BadPool (A : EcAt K LE "BadPool" "BadPool.__init__" ["index"] sI_BadPool) (X : K.In h) (G : h.Ns mainGlobals mg) : Er1 K mg "BadPool" "index" sI_BadPool :=
  A.er1 X G ⟨rfl, rfl, rfl, by decide +kernel, rfl, by decide +kernel, by decide +kernel⟩ rfl (.inl rfl) (.inl rfl) (by decide) (by decide) fun _ _ _ _ _ _ us hl => match us, hl with | [_, _], _ => rfl
def mk_BadGoal (A : EcAt K LE "BadGoal" "BadGoal.__init__" ["what"] sI_BadGoal) (X : K.In h) (G : h.Ns mainGlobals mg) : Er1 K mg "BadGoal" "what" sI_BadGoal :=
  A.er1 X G ⟨rfl, rfl, rfl, by decide +kernel, rfl, by decide +kernel, by decide +kernel⟩ rfl (.inl rfl) (.inl rfl) (by decide) (by decide) fun _ _ _ _ _ _ us hl => match us, hl with | [_, _], _ => rfl
def mk_NothingLeft (A : EcAt K LE "NothingLeft" "NothingLeft.__init__" ["many"] sI_NothingLeft) (X : K.In h) (G : h.Ns mainGlobals mg) : Er1 K mg "NothingLeft" "many" sI_NothingLeft :=
  A.er1 X G ⟨rfl, rfl, rfl, by decide +kernel, rfl, by decide +kernel, by decide +kernel⟩ rfl (.inl rfl) (.inl rfl) (by decide) (by decide) fun _ _ _ _ _ _ us hl => match us, hl with | [_, _], _ => rfl
def mk_StillTrial (A : EcAt K LE "StillTrial" "StillTrial.__init__" ["deeds"] sI_StillTrial) (X : K.In h) (G : h.Ns mainGlobals mg) : Er1 K mg "StillTrial" "deeds" sI_StillTrial :=
  A.er1 X G ⟨rfl, rfl, rfl, by decide +kernel, rfl, by decide +kernel, by decide +kernel⟩ rfl (.inl rfl) (.inl rfl) (by decide) (by decide) fun _ _ _ _ _ _ us hl => match us, hl with | [_, _], _ => rfl
end
def All.tx {K : PySem.W.Frag} (A : All K) {h : Heap} {mg : Str → Option Value} (X : K.In h) (G : h.Ns mainGlobals mg) : Tx K mg where
  LE := A.L.C
  gLE := PySem.W.mg_of X G A.L.a
  TLE := A.L.T
  mLE := A.L.m
  xLE := A.L.x
  c_BadBox := mk_BadBox A.e_BadBox X G
  m_BadBox := A.e_BadBox.m
  c_BadChart := mk_BadChart A.e_BadChart X G
  m_BadChart := A.e_BadChart.m
  c_BadText := mk_BadText A.e_BadText X G
  m_BadText := A.e_BadText.m
  c_BadCounts := mk_BadCounts A.e_BadCounts X G
  m_BadCounts := A.e_BadCounts.m
  c_BadSurrounding := mk_BadSurrounding A.e_BadSurrounding X G
  m_BadSurrounding := A.e_BadSurrounding.m
  c_BadTable := mk_BadTable A.e_BadTable X G
  m_BadTable := A.e_BadTable.m
  c_BadShares := mk_BadShares A.e_BadShares X G
  m_BadShares := A.e_BadShares.m
  c_BadWeights := mk_BadWeights A.e_BadWeights X G
  m_BadWeights := A.e_BadWeights.m
  c_BadChanges := mk_BadChanges A.e_BadChanges X G
  m_BadChanges := A.e_BadChanges.m
  c_BadHouse := mk_BadHouse A.e_BadHouse X G
  m_BadHouse := A.e_BadHouse.m
  c_BadFinder := mk_BadFinder A.e_BadFinder X G
  m_BadFinder := A.e_BadFinder.m
  c_BadGaps := mk_BadGaps A.e_BadGaps X G
  m_BadGaps := A.e_BadGaps.m
  c_BadLook := mk_BadLook A.e_BadLook X G
  m_BadLook := A.e_BadLook.m
  c_BadEdits := mk_BadEdits A.e_BadEdits X G
  m_BadEdits := A.e_BadEdits.m
  c_BadRatio := mk_BadRatio A.e_BadRatio X G
  m_BadRatio := A.e_BadRatio.m
  c_NoFilling := mk_NoFilling A.e_NoFilling X G
  m_NoFilling := A.e_NoFilling.m
  c_NoSuchBox := mk_NoSuchBox A.e_NoSuchBox X G
  m_NoSuchBox := A.e_NoSuchBox.m
  c_NoWire := mk_NoWire A.e_NoWire X G
  m_NoWire := A.e_NoWire.m
  c_BadIns := mk_BadIns A.e_BadIns X G
  m_BadIns := A.e_BadIns.m
  c_BadPost := mk_BadPost A.e_BadPost X G
  m_BadPost := A.e_BadPost.m
  c_ChanceBox := mk_ChanceBox A.e_ChanceBox X G
  m_ChanceBox := A.e_ChanceBox.m
  c_BadNaming := mk_BadNaming A.e_BadNaming X G
  m_BadNaming := A.e_BadNaming.m
  c_BadOrder := mk_BadOrder A.e_BadOrder X G
  m_BadOrder := A.e_BadOrder.m
  c_BadDays := mk_BadDays A.e_BadDays X G
  m_BadDays := A.e_BadDays.m
  c_TooMany := mk_TooMany A.e_TooMany X G
  m_TooMany := A.e_TooMany.m
  c_NoStory := mk_NoStory A.e_NoStory X G
  m_NoStory := A.e_NoStory.m
  c_HasStory := mk_HasStory A.e_HasStory X G
  m_HasStory := A.e_HasStory.m
  c_NoLetter := mk_NoLetter A.e_NoLetter X G
  m_NoLetter := A.e_NoLetter.m
  c_OtherWires := mk_OtherWires A.e_OtherWires X G
  m_OtherWires := A.e_OtherWires.m
  c_NoBox := mk_NoBox A.e_NoBox X G
  m_NoBox := A.e_NoBox.m
  c_BadLot := mk_BadLot A.e_BadLot X G
  m_BadLot := A.e_BadLot.m
  c_NoRing := mk_NoRing A.e_NoRing X G
  m_NoRing := A.e_NoRing.m
  c_BadTurns := mk_BadTurns A.e_BadTurns X G
  m_BadTurns := A.e_BadTurns.m
  c_NotStaying := mk_NotStaying A.e_NotStaying X G
  m_NotStaying := A.e_NotStaying.m
  c_BadOuts := mk_BadOuts A.e_BadOuts X G
  m_BadOuts := A.e_BadOuts.m
  c_BadShare := mk_BadShare A.e_BadShare X G
  m_BadShare := A.e_BadShare.m
  c_BadSlip := mk_BadSlip A.e_BadSlip X G
  m_BadSlip := A.e_BadSlip.m
  c_BadNear := mk_BadNear A.e_BadNear X G
  m_BadNear := A.e_BadNear.m
  c_BadTold := mk_BadTold A.e_BadTold X G
  m_BadTold := A.e_BadTold.m
  c_BadNames := mk_BadNames A.e_BadNames X G
  m_BadNames := A.e_BadNames.m
  c_NotKnown := mk_NotKnown A.e_NotKnown X G
  m_NotKnown := A.e_NotKnown.m
  c_NotMade := mk_NotMade A.e_NotMade X G
  m_NotMade := A.e_NotMade.m
  c_NotLeft := mk_NotLeft A.e_NotLeft X G
  m_NotLeft := A.e_NotLeft.m
  c_NoKey := mk_NoKey A.e_NoKey X G
  m_NoKey := A.e_NoKey.m
  c_BadCustom := mk_BadCustom A.e_BadCustom X G
  m_BadCustom := A.e_BadCustom.m
  c_BadWish := mk_BadWish A.e_BadWish X G
  m_BadWish := A.e_BadWish.m
  c_NotOneBox := mk_NotOneBox A.e_NotOneBox X G
  m_NotOneBox := A.e_NotOneBox.m
  c_BadHand := mk_BadHand A.e_BadHand X G
  m_BadHand := A.e_BadHand.m
  c_BadLetter := mk_BadLetter A.e_BadLetter X G
  m_BadLetter := A.e_BadLetter.m
  c_BadExchange := mk_BadExchange A.e_BadExchange X G
  m_BadExchange := A.e_BadExchange.m
  c_BadDay := mk_BadDay A.e_BadDay X G
  m_BadDay := A.e_BadDay.m
  c_NoDayStory := mk_NoDayStory A.e_NoDayStory X G
  m_NoDayStory := A.e_NoDayStory.m
  c_BadRound := mk_BadRound A.e_BadRound X G
  m_BadRound := A.e_BadRound.m
  c_OtherLetters := mk_OtherLetters A.e_OtherLetters X G
  m_OtherLetters := A.e_OtherLetters.m
  c_NotIn := mk_NotIn A.e_NotIn X G
  m_NotIn := A.e_NotIn.m
  c_BadManner := mk_BadManner A.e_BadManner X G
  m_BadManner := A.e_BadManner.m
  c_BadPool := mk_BadPool A.e_BadPool X G
  m_BadPool := A.e_BadPool.m
  c_BadGoal := mk_BadGoal A.e_BadGoal X G
  m_BadGoal := A.e_BadGoal.m
  c_NothingLeft := mk_NothingLeft A.e_NothingLeft X G
  m_NothingLeft := A.e_NothingLeft.m
  c_StillTrial := mk_StillTrial A.e_StillTrial X G
  m_StillTrial := A.e_StillTrial.m
  law_hand := A.f_law_hand.fn X G fun _ _ _ _ _ _ us hl => match us, hl with | [_], _ => rfl
  law_mixed := A.f_law_mixed.fn X G fun _ _ _ _ _ _ us hl => match us, hl with | [_, _], _ => rfl
  law_take := A.f_law_take.fn X G fun _ _ _ _ _ _ us hl => match us, hl with | [_, _], _ => rfl
  law_pairs := A.f_law_pairs.fn X G fun _ _ _ _ _ _ us hl => match us, hl with | [_, _], _ => rfl
  law_first := A.f_law_first.fn X G fun _ _ _ _ _ _ us hl => match us, hl with | [_], _ => rfl
  law_second := A.f_law_second.fn X G fun _ _ _ _ _ _ us hl => match us, hl with | [_], _ => rfl
  law_kinds := A.f_law_kinds.fn X G fun _ _ _ _ _ _ us hl => match us, hl with | [_], _ => rfl
  len := PySem.W.mg_none_of X G A.n_len
  abs := PySem.W.mg_none_of X G A.n_abs
  int := PySem.W.mg_none_of X G A.n_int
  range := PySem.W.mg_none_of X G A.n_range
  isinstance := PySem.W.mg_none_of X G A.n_isinstance
  ValueError := PySem.W.mg_none_of X G A.n_ValueError
theorem fin {l : PySem.W.OpenLaw} {w : World} {K : PySem.W.Frag} {h : Heap} {mg : Str → Option Value} {fa : Addr} (X : K.In h) (G : h.Ns mainGlobals mg) (hfa : mg "law" = some (.ref fa)) (A : All K) :
    ∃ fd : FuncData, (∀ (s : Shared) (v : Value), BindsTo s fd ⟨[v], []⟩ [("_law_script", v)]) ∧ ∀ base : Heap, K.In base → base.Ns mainGlobals mg → FnOk l.prog w K mg base CX0 4 fa fd ["_law_script"] (spLaw K) := by
  have e := hfa.symm.trans (PySem.W.mg_of X G A.f_law.a)
  cases e
  obtain ⟨oc, od, kV, doc, pm, an, cdv, ct, osl, e, lk, hcd⟩ := id A.f_law.F.ex
  refine ⟨A.f_law.fd, fun s v => ?_, fun base _ _ => ok_law A.f_law.f A.f_law.fd A.f_law.F (A.tx X G)⟩
  rw [e]
  exact .of_eq rfl
end K00
set_option Elab.async false
set_option linter.all false
set_option maxRecDepth 100000
set_option maxHeartbeats 0
namespace K00
open PySem PySem.Spec PyProof.Rows L2 X00
theorem ClsF.err {K : PySem.W.Frag} {x : Str} {C : Addr} {tl : List Value} {fs : List Str} (c : ClsF K x C tl fs) (Z : Glb K) (hr : PySem.HandSPX.refsVE tl = true) (hb : tl.contains (.type "BaseException") = true) (ho : tl.contains (.type "object") = true) : ErrC K C := by
  obtain ⟨N, q, bs, sn, sub, ab, col, dd, k0, k1, k2, k3, k5, e⟩ := c.ex
  exact errC_mk Z e hr hb ho c.sa c.ga c.gg c.ca
theorem ClsF.mr {K : PySem.W.Frag} {x : Str} {C : Addr} {tl : List Value} {fs : List Str} (c : ClsF K x C tl fs) : MrL K C x (.ref C :: tl) := by
  obtain ⟨N, q, bs, sn, sub, ab, col, dd, k0, k1, k2, k3, k5, e⟩ := c.ex
  exact mrL_mk e
theorem ecOf (x q : Str) (fs : List Str) (st : Stmt) {K : PySem.W.Frag} {LE : Addr} (Z : Glb K) (c : clsB K x (.ref LE :: veT) fs = true) (g : (He.Fa.glo x).ok K = true) (m : (He.Fa.meth x "__init__").ok K = true)
    (F : ∃ fd, FunD K "__init__" q (defArgs st) (defBody st) (defScope st) [] [] (He.fAd K (x, some "__init__")) fd) : Nonempty (EcAt K LE x q fs st) := by
  obtain ⟨fd, F⟩ := F
  have c := clsB_ok c
  obtain ⟨m1, m2⟩ := ba (show (He.eqO (PySem.W.findIn K (.ref (ga K x)) "__init__") (some (some (.ref (ma K (ga K x) "__init__")))) && (PySem.W.isFn K (.ref (ma K (ga K x) "__init__")) && PySem.W.keepIn K (.ref (ma K (ga K x) "__init__")))) = true from m)
  obtain ⟨m3, _⟩ := ba m2
  exact ⟨⟨ga K x, ma K (ga K x) "__init__", fd, He.eqO_ok g, c.err Z rfl rfl rfl, c.nf, He.eqO_ok m1, beq_iff_eq.mp m3, funOf F, c.mr⟩⟩
theorem faOf (x : Str) (st : Stmt) {K : PySem.W.Frag} (g : (He.Fa.glo x).ok K = true) (F : ∃ fd, FunD K x x (defArgs st) (defBody st) (defScope st) [] [] (He.fAd K (x, none)) fd) : Nonempty (FnAt K x st) := by
  obtain ⟨fd, F⟩ := F
  exact ⟨⟨ga K x, fd, He.eqO_ok g, funOf F⟩⟩
theorem all_of {K : PySem.W.Frag} (c : He.SaysD fa fn K) (h : exB K = true) : Nonempty (All K) := by
  obtain ⟨p0, h⟩ := ba h
  obtain ⟨hL, p0⟩ := ba p0
  obtain ⟨h1, p0⟩ := ba p0
  obtain ⟨h2, h3⟩ := ba p0
  have Z : Glb K := ⟨He.eqO_ok h1, of_decide_eq_true h2⟩
  have cL := clsB_ok hL
  have gL : (He.Fa.glo "LetterError").ok K = true := c.fact 0 (f := .glo "LetterError") rfl
  obtain ⟨p, h⟩ := ba h
  obtain ⟨c0, p⟩ := ba p
  obtain ⟨e0⟩ := ecOf "BadBox" "BadBox.__init__" ["index", "what"] sI_BadBox Z c0 (c.fact 15 (f := .glo "BadBox") rfl) (c.fact 16 (f := .meth "BadBox" "__init__") rfl) (c.def_ 8 (d := ⟨("BadBox", some "__init__"), "__init__", "BadBox.__init__", defArgs sI_BadBox, defBody sI_BadBox, defScope sI_BadBox, [], []⟩) rfl)
  obtain ⟨c1, p⟩ := ba p
  obtain ⟨e1⟩ := ecOf "BadChart" "BadChart.__init__" ["index", "what"] sI_BadChart Z c1 (c.fact 17 (f := .glo "BadChart") rfl) (c.fact 18 (f := .meth "BadChart" "__init__") rfl) (c.def_ 9 (d := ⟨("BadChart", some "__init__"), "__init__", "BadChart.__init__", defArgs sI_BadChart, defBody sI_BadChart, defScope sI_BadChart, [], []⟩) rfl)
  obtain ⟨c2, p⟩ := ba p
  obtain ⟨e2⟩ := ecOf "BadText" "BadText.__init__" ["row", "what"] sI_BadText Z c2 (c.fact 19 (f := .glo "BadText") rfl) (c.fact 20 (f := .meth "BadText" "__init__") rfl) (c.def_ 10 (d := ⟨("BadText", some "__init__"), "__init__", "BadText.__init__", defArgs sI_BadText, defBody sI_BadText, defScope sI_BadText, [], []⟩) rfl)
  obtain ⟨c3, p⟩ := ba p
  obtain ⟨e3⟩ := ecOf "BadCounts" "BadCounts.__init__" ["index", "what"] sI_BadCounts Z c3 (c.fact 21 (f := .glo "BadCounts") rfl) (c.fact 22 (f := .meth "BadCounts" "__init__") rfl) (c.def_ 11 (d := ⟨("BadCounts", some "__init__"), "__init__", "BadCounts.__init__", defArgs sI_BadCounts, defBody sI_BadCounts, defScope sI_BadCounts, [], []⟩) rfl)
  obtain ⟨c4, p⟩ := ba p
  obtain ⟨e4⟩ := ecOf "BadSurrounding" "BadSurrounding.__init__" ["name", "what"] sI_BadSurrounding Z c4 (c.fact 23 (f := .glo "BadSurrounding") rfl) (c.fact 24 (f := .meth "BadSurrounding" "__init__") rfl) (c.def_ 12 (d := ⟨("BadSurrounding", some "__init__"), "__init__", "BadSurrounding.__init__", defArgs sI_BadSurrounding, defBody sI_BadSurrounding, defScope sI_BadSurrounding, [], []⟩) rfl)
  obtain ⟨c5, p⟩ := ba p
  obtain ⟨e5⟩ := ecOf "BadTable" "BadTable.__init__" ["index", "what"] sI_BadTable Z c5 (c.fact 25 (f := .glo "BadTable") rfl) (c.fact 26 (f := .meth "BadTable" "__init__") rfl) (c.def_ 13 (d := ⟨("BadTable", some "__init__"), "__init__", "BadTable.__init__", defArgs sI_BadTable, defBody sI_BadTable, defScope sI_BadTable, [], []⟩) rfl)
  obtain ⟨c6, p⟩ := ba p
  obtain ⟨e6⟩ := ecOf "BadShares" "BadShares.__init__" ["index", "what"] sI_BadShares Z c6 (c.fact 27 (f := .glo "BadShares") rfl) (c.fact 28 (f := .meth "BadShares" "__init__") rfl) (c.def_ 14 (d := ⟨("BadShares", some "__init__"), "__init__", "BadShares.__init__", defArgs sI_BadShares, defBody sI_BadShares, defScope sI_BadShares, [], []⟩) rfl)
  obtain ⟨c7, p⟩ := ba p
  obtain ⟨e7⟩ := ecOf "BadWeights" "BadWeights.__init__" ["index", "what"] sI_BadWeights Z c7 (c.fact 29 (f := .glo "BadWeights") rfl) (c.fact 30 (f := .meth "BadWeights" "__init__") rfl) (c.def_ 15 (d := ⟨("BadWeights", some "__init__"), "__init__", "BadWeights.__init__", defArgs sI_BadWeights, defBody sI_BadWeights, defScope sI_BadWeights, [], []⟩) rfl)
  obtain ⟨c8, p⟩ := ba p
  obtain ⟨e8⟩ := ecOf "BadChanges" "BadChanges.__init__" ["index", "what"] sI_BadChanges Z c8 (c.fact 31 (f := .glo "BadChanges") rfl) (c.fact 32 (f := .meth "BadChanges" "__init__") rfl) (c.def_ 16 (d := ⟨("BadChanges", some "__init__"), "__init__", "BadChanges.__init__", defArgs sI_BadChanges, defBody sI_BadChanges, defScope sI_BadChanges, [], []⟩) rfl)
  obtain ⟨c9, p⟩ := ba p
  obtain ⟨e9⟩ := ecOf "BadHouse" "BadHouse.__init__" ["index", "what"] sI_BadHouse Z c9 (c.fact 33 (f := .glo "BadHouse") rfl) (c.fact 34 (f := .meth "BadHouse" "__init__") rfl) (c.def_ 17 (d := ⟨("BadHouse", some "__init__"), "__init__", "BadHouse.__init__", defArgs sI_BadHouse, defBody sI_BadHouse, defScope sI_BadHouse, [], []⟩) rfl)
  obtain ⟨p, h⟩ := ba h
  obtain ⟨c10, p⟩ := ba p
  obtain ⟨e10⟩ := ecOf "BadFinder" "BadFinder.__init__" ["index", "what"] sI_BadFinder Z c10 (c.fact 35 (f := .glo "BadFinder") rfl) (c.fact 36 (f := .meth "BadFinder" "__init__") rfl) (c.def_ 18 (d := ⟨("BadFinder", some "__init__"), "__init__", "BadFinder.__init__", defArgs sI_BadFinder, defBody sI_BadFinder, defScope sI_BadFinder, [], []⟩) rfl)
  obtain ⟨c11, p⟩ := ba p
  obtain ⟨e11⟩ := ecOf "BadGaps" "BadGaps.__init__" ["index", "what"] sI_BadGaps Z c11 (c.fact 37 (f := .glo "BadGaps") rfl) (c.fact 38 (f := .meth "BadGaps" "__init__") rfl) (c.def_ 19 (d := ⟨("BadGaps", some "__init__"), "__init__", "BadGaps.__init__", defArgs sI_BadGaps, defBody sI_BadGaps, defScope sI_BadGaps, [], []⟩) rfl)
  obtain ⟨c12, p⟩ := ba p
  obtain ⟨e12⟩ := ecOf "BadLook" "BadLook.__init__" ["index", "what"] sI_BadLook Z c12 (c.fact 39 (f := .glo "BadLook") rfl) (c.fact 40 (f := .meth "BadLook" "__init__") rfl) (c.def_ 20 (d := ⟨("BadLook", some "__init__"), "__init__", "BadLook.__init__", defArgs sI_BadLook, defBody sI_BadLook, defScope sI_BadLook, [], []⟩) rfl)
  obtain ⟨c13, p⟩ := ba p
  obtain ⟨e13⟩ := ecOf "BadEdits" "BadEdits.__init__" ["index", "what"] sI_BadEdits Z c13 (c.fact 41 (f := .glo "BadEdits") rfl) (c.fact 42 (f := .meth "BadEdits" "__init__") rfl) (c.def_ 21 (d := ⟨("BadEdits", some "__init__"), "__init__", "BadEdits.__init__", defArgs sI_BadEdits, defBody sI_BadEdits, defScope sI_BadEdits, [], []⟩) rfl)
  obtain ⟨c14, p⟩ := ba p
  obtain ⟨e14⟩ := ecOf "BadRatio" "BadRatio.__init__" ["what"] sI_BadRatio Z c14 (c.fact 43 (f := .glo "BadRatio") rfl) (c.fact 44 (f := .meth "BadRatio" "__init__") rfl) (c.def_ 22 (d := ⟨("BadRatio", some "__init__"), "__init__", "BadRatio.__init__", defArgs sI_BadRatio, defBody sI_BadRatio, defScope sI_BadRatio, [], []⟩) rfl)
  obtain ⟨c15, p⟩ := ba p
  obtain ⟨e15⟩ := ecOf "NoFilling" "NoFilling.__init__" ["thing"] sI_NoFilling Z c15 (c.fact 45 (f := .glo "NoFilling") rfl) (c.fact 46 (f := .meth "NoFilling" "__init__") rfl) (c.def_ 23 (d := ⟨("NoFilling", some "__init__"), "__init__", "NoFilling.__init__", defArgs sI_NoFilling, defBody sI_NoFilling, defScope sI_NoFilling, [], []⟩) rfl)
  obtain ⟨c16, p⟩ := ba p
  obtain ⟨e16⟩ := ecOf "NoSuchBox" "NoSuchBox.__init__" ["index"] sI_NoSuchBox Z c16 (c.fact 47 (f := .glo "NoSuchBox") rfl) (c.fact 48 (f := .meth "NoSuchBox" "__init__") rfl) (c.def_ 24 (d := ⟨("NoSuchBox", some "__init__"), "__init__", "NoSuchBox.__init__", defArgs sI_NoSuchBox, defBody sI_NoSuchBox, defScope sI_NoSuchBox, [], []⟩) rfl)
  obtain ⟨c17, p⟩ := ba p
  obtain ⟨e17⟩ := ecOf "NoWire" "NoWire.__init__" ["name"] sI_NoWire Z c17 (c.fact 49 (f := .glo "NoWire") rfl) (c.fact 50 (f := .meth "NoWire" "__init__") rfl) (c.def_ 25 (d := ⟨("NoWire", some "__init__"), "__init__", "NoWire.__init__", defArgs sI_NoWire, defBody sI_NoWire, defScope sI_NoWire, [], []⟩) rfl)
  obtain ⟨c18, p⟩ := ba p
  obtain ⟨e18⟩ := ecOf "BadIns" "BadIns.__init__" ["index"] sI_BadIns Z c18 (c.fact 51 (f := .glo "BadIns") rfl) (c.fact 52 (f := .meth "BadIns" "__init__") rfl) (c.def_ 26 (d := ⟨("BadIns", some "__init__"), "__init__", "BadIns.__init__", defArgs sI_BadIns, defBody sI_BadIns, defScope sI_BadIns, [], []⟩) rfl)
  obtain ⟨c19, p⟩ := ba p
  obtain ⟨e19⟩ := ecOf "BadPost" "BadPost.__init__" ["index"] sI_BadPost Z c19 (c.fact 53 (f := .glo "BadPost") rfl) (c.fact 54 (f := .meth "BadPost" "__init__") rfl) (c.def_ 27 (d := ⟨("BadPost", some "__init__"), "__init__", "BadPost.__init__", defArgs sI_BadPost, defBody sI_BadPost, defScope sI_BadPost, [], []⟩) rfl)
  obtain ⟨p, h⟩ := ba h
  obtain ⟨c20, p⟩ := ba p
  obtain ⟨e20⟩ := ecOf "ChanceBox" "ChanceBox.__init__" ["index"] sI_ChanceBox Z c20 (c.fact 55 (f := .glo "ChanceBox") rfl) (c.fact 56 (f := .meth "ChanceBox" "__init__") rfl) (c.def_ 28 (d := ⟨("ChanceBox", some "__init__"), "__init__", "ChanceBox.__init__", defArgs sI_ChanceBox, defBody sI_ChanceBox, defScope sI_ChanceBox, [], []⟩) rfl)
  obtain ⟨c21, p⟩ := ba p
  obtain ⟨e21⟩ := ecOf "BadNaming" "BadNaming.__init__" ["index"] sI_BadNaming Z c21 (c.fact 57 (f := .glo "BadNaming") rfl) (c.fact 58 (f := .meth "BadNaming" "__init__") rfl) (c.def_ 29 (d := ⟨("BadNaming", some "__init__"), "__init__", "BadNaming.__init__", defArgs sI_BadNaming, defBody sI_BadNaming, defScope sI_BadNaming, [], []⟩) rfl)
  obtain ⟨c22, p⟩ := ba p
  obtain ⟨e22⟩ := ecOf "BadOrder" "BadOrder.__init__" ["order"] sI_BadOrder Z c22 (c.fact 59 (f := .glo "BadOrder") rfl) (c.fact 60 (f := .meth "BadOrder" "__init__") rfl) (c.def_ 30 (d := ⟨("BadOrder", some "__init__"), "__init__", "BadOrder.__init__", defArgs sI_BadOrder, defBody sI_BadOrder, defScope sI_BadOrder, [], []⟩) rfl)
  obtain ⟨c23, p⟩ := ba p
  obtain ⟨e23⟩ := ecOf "BadDays" "BadDays.__init__" ["days"] sI_BadDays Z c23 (c.fact 61 (f := .glo "BadDays") rfl) (c.fact 62 (f := .meth "BadDays" "__init__") rfl) (c.def_ 31 (d := ⟨("BadDays", some "__init__"), "__init__", "BadDays.__init__", defArgs sI_BadDays, defBody sI_BadDays, defScope sI_BadDays, [], []⟩) rfl)
  obtain ⟨c24, p⟩ := ba p
  obtain ⟨e24⟩ := ecOf "TooMany" "TooMany.__init__" ["most"] sI_TooMany Z c24 (c.fact 63 (f := .glo "TooMany") rfl) (c.fact 64 (f := .meth "TooMany" "__init__") rfl) (c.def_ 32 (d := ⟨("TooMany", some "__init__"), "__init__", "TooMany.__init__", defArgs sI_TooMany, defBody sI_TooMany, defScope sI_TooMany, [], []⟩) rfl)
  obtain ⟨c25, p⟩ := ba p
  obtain ⟨e25⟩ := ecOf "NoStory" "NoStory.__init__" ["thing"] sI_NoStory Z c25 (c.fact 65 (f := .glo "NoStory") rfl) (c.fact 66 (f := .meth "NoStory" "__init__") rfl) (c.def_ 33 (d := ⟨("NoStory", some "__init__"), "__init__", "NoStory.__init__", defArgs sI_NoStory, defBody sI_NoStory, defScope sI_NoStory, [], []⟩) rfl)
  obtain ⟨c26, p⟩ := ba p
  obtain ⟨e26⟩ := ecOf "HasStory" "HasStory.__init__" ["filling"] sI_HasStory Z c26 (c.fact 67 (f := .glo "HasStory") rfl) (c.fact 68 (f := .meth "HasStory" "__init__") rfl) (c.def_ 34 (d := ⟨("HasStory", some "__init__"), "__init__", "HasStory.__init__", defArgs sI_HasStory, defBody sI_HasStory, defScope sI_HasStory, [], []⟩) rfl)
  obtain ⟨c27, p⟩ := ba p
  obtain ⟨e27⟩ := ecOf "NoLetter" "NoLetter.__init__" ["name"] sI_NoLetter Z c27 (c.fact 69 (f := .glo "NoLetter") rfl) (c.fact 70 (f := .meth "NoLetter" "__init__") rfl) (c.def_ 35 (d := ⟨("NoLetter", some "__init__"), "__init__", "NoLetter.__init__", defArgs sI_NoLetter, defBody sI_NoLetter, defScope sI_NoLetter, [], []⟩) rfl)
  obtain ⟨c28, p⟩ := ba p
  obtain ⟨e28⟩ := ecOf "OtherWires" "OtherWires.__init__" ["what"] sI_OtherWires Z c28 (c.fact 71 (f := .glo "OtherWires") rfl) (c.fact 72 (f := .meth "OtherWires" "__init__") rfl) (c.def_ 36 (d := ⟨("OtherWires", some "__init__"), "__init__", "OtherWires.__init__", defArgs sI_OtherWires, defBody sI_OtherWires, defScope sI_OtherWires, [], []⟩) rfl)
  obtain ⟨c29, p⟩ := ba p
  obtain ⟨e29⟩ := ecOf "NoBox" "NoBox.__init__" ["what"] sI_NoBox Z c29 (c.fact 73 (f := .glo "NoBox") rfl) (c.fact 74 (f := .meth "NoBox" "__init__") rfl) (c.def_ 37 (d := ⟨("NoBox", some "__init__"), "__init__", "NoBox.__init__", defArgs sI_NoBox, defBody sI_NoBox, defScope sI_NoBox, [], []⟩) rfl)
  obtain ⟨p, h⟩ := ba h
  obtain ⟨c30, p⟩ := ba p
  obtain ⟨e30⟩ := ecOf "BadLot" "BadLot.__init__" ["index"] sI_BadLot Z c30 (c.fact 75 (f := .glo "BadLot") rfl) (c.fact 76 (f := .meth "BadLot" "__init__") rfl) (c.def_ 38 (d := ⟨("BadLot", some "__init__"), "__init__", "BadLot.__init__", defArgs sI_BadLot, defBody sI_BadLot, defScope sI_BadLot, [], []⟩) rfl)
  obtain ⟨c31, p⟩ := ba p
  obtain ⟨e31⟩ := ecOf "NoRing" "NoRing.__init__" ["lot"] sI_NoRing Z c31 (c.fact 77 (f := .glo "NoRing") rfl) (c.fact 78 (f := .meth "NoRing" "__init__") rfl) (c.def_ 39 (d := ⟨("NoRing", some "__init__"), "__init__", "NoRing.__init__", defArgs sI_NoRing, defBody sI_NoRing, defScope sI_NoRing, [], []⟩) rfl)
  obtain ⟨c32, p⟩ := ba p
  obtain ⟨e32⟩ := ecOf "BadTurns" "BadTurns.__init__" ["turns"] sI_BadTurns Z c32 (c.fact 79 (f := .glo "BadTurns") rfl) (c.fact 80 (f := .meth "BadTurns" "__init__") rfl) (c.def_ 40 (d := ⟨("BadTurns", some "__init__"), "__init__", "BadTurns.__init__", defArgs sI_BadTurns, defBody sI_BadTurns, defScope sI_BadTurns, [], []⟩) rfl)
  obtain ⟨c33, p⟩ := ba p
  obtain ⟨e33⟩ := ecOf "NotStaying" "NotStaying.__init__" ["post"] sI_NotStaying Z c33 (c.fact 81 (f := .glo "NotStaying") rfl) (c.fact 82 (f := .meth "NotStaying" "__init__") rfl) (c.def_ 41 (d := ⟨("NotStaying", some "__init__"), "__init__", "NotStaying.__init__", defArgs sI_NotStaying, defBody sI_NotStaying, defScope sI_NotStaying, [], []⟩) rfl)
  obtain ⟨c34, p⟩ := ba p
  obtain ⟨e34⟩ := ecOf "BadOuts" "BadOuts.__init__" ["outs"] sI_BadOuts Z c34 (c.fact 83 (f := .glo "BadOuts") rfl) (c.fact 84 (f := .meth "BadOuts" "__init__") rfl) (c.def_ 42 (d := ⟨("BadOuts", some "__init__"), "__init__", "BadOuts.__init__", defArgs sI_BadOuts, defBody sI_BadOuts, defScope sI_BadOuts, [], []⟩) rfl)
  obtain ⟨c35, p⟩ := ba p
  obtain ⟨e35⟩ := ecOf "BadShare" "BadShare.__init__" ["share"] sI_BadShare Z c35 (c.fact 85 (f := .glo "BadShare") rfl) (c.fact 86 (f := .meth "BadShare" "__init__") rfl) (c.def_ 43 (d := ⟨("BadShare", some "__init__"), "__init__", "BadShare.__init__", defArgs sI_BadShare, defBody sI_BadShare, defScope sI_BadShare, [], []⟩) rfl)
  obtain ⟨c36, p⟩ := ba p
  obtain ⟨e36⟩ := ecOf "BadSlip" "BadSlip.__init__" ["slip"] sI_BadSlip Z c36 (c.fact 87 (f := .glo "BadSlip") rfl) (c.fact 88 (f := .meth "BadSlip" "__init__") rfl) (c.def_ 44 (d := ⟨("BadSlip", some "__init__"), "__init__", "BadSlip.__init__", defArgs sI_BadSlip, defBody sI_BadSlip, defScope sI_BadSlip, [], []⟩) rfl)
  obtain ⟨c37, p⟩ := ba p
  obtain ⟨e37⟩ := ecOf "BadNear" "BadNear.__init__" ["within"] sI_BadNear Z c37 (c.fact 89 (f := .glo "BadNear") rfl) (c.fact 90 (f := .meth "BadNear" "__init__") rfl) (c.def_ 45 (d := ⟨("BadNear", some "__init__"), "__init__", "BadNear.__init__", defArgs sI_BadNear, defBody sI_BadNear, defScope sI_BadNear, [], []⟩) rfl)
  obtain ⟨c38, p⟩ := ba p
  obtain ⟨e38⟩ := ecOf "BadTold" "BadTold.__init__" ["index"] sI_BadTold Z c38 (c.fact 91 (f := .glo "BadTold") rfl) (c.fact 92 (f := .meth "BadTold" "__init__") rfl) (c.def_ 46 (d := ⟨("BadTold", some "__init__"), "__init__", "BadTold.__init__", defArgs sI_BadTold, defBody sI_BadTold, defScope sI_BadTold, [], []⟩) rfl)
  obtain ⟨c39, p⟩ := ba p
  obtain ⟨e39⟩ := ecOf "BadNames" "BadNames.__init__" ["index"] sI_BadNames Z c39 (c.fact 93 (f := .glo "BadNames") rfl) (c.fact 94 (f := .meth "BadNames" "__init__") rfl) (c.def_ 47 (d := ⟨("BadNames", some "__init__"), "__init__", "BadNames.__init__", defArgs sI_BadNames, defBody sI_BadNames, defScope sI_BadNames, [], []⟩) rfl)
  obtain ⟨p, h⟩ := ba h
  obtain ⟨c40, p⟩ := ba p
  obtain ⟨e40⟩ := ecOf "NotKnown" "NotKnown.__init__" ["name"] sI_NotKnown Z c40 (c.fact 95 (f := .glo "NotKnown") rfl) (c.fact 96 (f := .meth "NotKnown" "__init__") rfl) (c.def_ 48 (d := ⟨("NotKnown", some "__init__"), "__init__", "NotKnown.__init__", defArgs sI_NotKnown, defBody sI_NotKnown, defScope sI_NotKnown, [], []⟩) rfl)
  obtain ⟨c41, p⟩ := ba p
  obtain ⟨e41⟩ := ecOf "NotMade" "NotMade.__init__" ["name"] sI_NotMade Z c41 (c.fact 97 (f := .glo "NotMade") rfl) (c.fact 98 (f := .meth "NotMade" "__init__") rfl) (c.def_ 49 (d := ⟨("NotMade", some "__init__"), "__init__", "NotMade.__init__", defArgs sI_NotMade, defBody sI_NotMade, defScope sI_NotMade, [], []⟩) rfl)
  obtain ⟨c42, p⟩ := ba p
  obtain ⟨e42⟩ := ecOf "NotLeft" "NotLeft.__init__" ["worth"] sI_NotLeft Z c42 (c.fact 99 (f := .glo "NotLeft") rfl) (c.fact 100 (f := .meth "NotLeft" "__init__") rfl) (c.def_ 50 (d := ⟨("NotLeft", some "__init__"), "__init__", "NotLeft.__init__", defArgs sI_NotLeft, defBody sI_NotLeft, defScope sI_NotLeft, [], []⟩) rfl)
  obtain ⟨c43, p⟩ := ba p
  obtain ⟨e43⟩ := ecOf "NoKey" "NoKey.__init__" ["filling"] sI_NoKey Z c43 (c.fact 101 (f := .glo "NoKey") rfl) (c.fact 102 (f := .meth "NoKey" "__init__") rfl) (c.def_ 51 (d := ⟨("NoKey", some "__init__"), "__init__", "NoKey.__init__", defArgs sI_NoKey, defBody sI_NoKey, defScope sI_NoKey, [], []⟩) rfl)
  obtain ⟨c44, p⟩ := ba p
  obtain ⟨e44⟩ := ecOf "BadCustom" "BadCustom.__init__" ["custom"] sI_BadCustom Z c44 (c.fact 103 (f := .glo "BadCustom") rfl) (c.fact 104 (f := .meth "BadCustom" "__init__") rfl) (c.def_ 52 (d := ⟨("BadCustom", some "__init__"), "__init__", "BadCustom.__init__", defArgs sI_BadCustom, defBody sI_BadCustom, defScope sI_BadCustom, [], []⟩) rfl)
  obtain ⟨c45, p⟩ := ba p
  obtain ⟨e45⟩ := ecOf "BadWish" "BadWish.__init__" ["what"] sI_BadWish Z c45 (c.fact 105 (f := .glo "BadWish") rfl) (c.fact 106 (f := .meth "BadWish" "__init__") rfl) (c.def_ 53 (d := ⟨("BadWish", some "__init__"), "__init__", "BadWish.__init__", defArgs sI_BadWish, defBody sI_BadWish, defScope sI_BadWish, [], []⟩) rfl)
  obtain ⟨c46, p⟩ := ba p
  obtain ⟨e46⟩ := ecOf "NotOneBox" "NotOneBox.__init__" ["what"] sI_NotOneBox Z c46 (c.fact 107 (f := .glo "NotOneBox") rfl) (c.fact 108 (f := .meth "NotOneBox" "__init__") rfl) (c.def_ 54 (d := ⟨("NotOneBox", some "__init__"), "__init__", "NotOneBox.__init__", defArgs sI_NotOneBox, defBody sI_NotOneBox, defScope sI_NotOneBox, [], []⟩) rfl)
  obtain ⟨c47, p⟩ := ba p
  obtain ⟨e47⟩ := ecOf "BadHand" "BadHand.__init__" ["hand"] sI_BadHand Z c47 (c.fact 109 (f := .glo "BadHand") rfl) (c.fact 110 (f := .meth "BadHand" "__init__") rfl) (c.def_ 55 (d := ⟨("BadHand", some "__init__"), "__init__", "BadHand.__init__", defArgs sI_BadHand, defBody sI_BadHand, defScope sI_BadHand, [], []⟩) rfl)
  obtain ⟨c48, p⟩ := ba p
  obtain ⟨e48⟩ := ecOf "BadLetter" "BadLetter.__init__" ["letter"] sI_BadLetter Z c48 (c.fact 111 (f := .glo "BadLetter") rfl) (c.fact 112 (f := .meth "BadLetter" "__init__") rfl) (c.def_ 56 (d := ⟨("BadLetter", some "__init__"), "__init__", "BadLetter.__init__", defArgs sI_BadLetter, defBody sI_BadLetter, defScope sI_BadLetter, [], []⟩) rfl)
  obtain ⟨c49, p⟩ := ba p
  obtain ⟨e49⟩ := ecOf "BadExchange" "BadExchange.__init__" ["what"] sI_BadExchange Z c49 (c.fact 113 (f := .glo "BadExchange") rfl) (c.fact 114 (f := .meth "BadExchange" "__init__") rfl) (c.def_ 57 (d := ⟨("BadExchange", some "__init__"), "__init__", "BadExchange.__init__", defArgs sI_BadExchange, defBody sI_BadExchange, defScope sI_BadExchange, [], []⟩) rfl)
  have p := h
  obtain ⟨c50, p⟩ := ba p
  obtain ⟨e50⟩ := ecOf "BadDay" "BadDay.__init__" ["day"] sI_BadDay Z c50 (c.fact 115 (f := .glo "BadDay") rfl) (c.fact 116 (f := .meth "BadDay" "__init__") rfl) (c.def_ 58 (d := ⟨("BadDay", some "__init__"), "__init__", "BadDay.__init__", defArgs sI_BadDay, defBody sI_BadDay, defScope sI_BadDay, [], []⟩) rfl)
  obtain ⟨c51, p⟩ := ba p
  obtain ⟨e51⟩ := ecOf "NoDayStory" "NoDayStory.__init__" ["number"] sI_NoDayStory Z c51 (c.fact 117 (f := .glo "NoDayStory") rfl) (c.fact 118 (f := .meth "NoDayStory" "__init__") rfl) (c.def_ 59 (d := ⟨("NoDayStory", some "__init__"), "__init__", "NoDayStory.__init__", defArgs sI_NoDayStory, defBody sI_NoDayStory, defScope sI_NoDayStory, [], []⟩) rfl)
  obtain ⟨c52, p⟩ := ba p
  obtain ⟨e52⟩ := ecOf "BadRound" "BadRound.__init__" ["what"] sI_BadRound Z c52 (c.fact 119 (f := .glo "BadRound") rfl) (c.fact 120 (f := .meth "BadRound" "__init__") rfl) (c.def_ 60 (d := ⟨("BadRound", some "__init__"), "__init__", "BadRound.__init__", defArgs sI_BadRound, defBody sI_BadRound, defScope sI_BadRound, [], []⟩) rfl)
  obtain ⟨c53, p⟩ := ba p
  obtain ⟨e53⟩ := ecOf "OtherLetters" "OtherLetters.__init__" ["size"] sI_OtherLetters Z c53 (c.fact 121 (f := .glo "OtherLetters") rfl) (c.fact 122 (f := .meth "OtherLetters" "__init__") rfl) (c.def_ 61 (d := ⟨("OtherLetters", some "__init__"), "__init__", "OtherLetters.__init__", defArgs sI_OtherLetters, defBody sI_OtherLetters, defScope sI_OtherLetters, [], []⟩) rfl)
  obtain ⟨c54, p⟩ := ba p
  obtain ⟨e54⟩ := ecOf "NotIn" "NotIn.__init__" ["name"] sI_NotIn Z c54 (c.fact 123 (f := .glo "NotIn") rfl) (c.fact 124 (f := .meth "NotIn" "__init__") rfl) (c.def_ 62 (d := ⟨("NotIn", some "__init__"), "__init__", "NotIn.__init__", defArgs sI_NotIn, defBody sI_NotIn, defScope sI_NotIn, [], []⟩) rfl)
  obtain ⟨c55, p⟩ := ba p
  obtain ⟨e55⟩ := ecOf "BadManner" "BadManner.__init__" ["manner"] sI_BadManner Z c55 (c.fact 125 (f := .glo "BadManner") rfl) (c.fact 126 (f := .meth "BadManner" "__init__") rfl) (c.def_ 63 (d := ⟨("BadManner", some "__init__"), "__init__", "BadManner.__init__", defArgs sI_BadManner, defBody sI_BadManner, defScope sI_BadManner, [], []⟩) rfl)
  obtain ⟨c56, p⟩ := ba p
  obtain ⟨e56⟩ := ecOf "BadPool" "BadPool.__init__" ["index"] sI_BadPool Z c56 (c.fact 127 (f := .glo "BadPool") rfl) (c.fact 128 (f := .meth "BadPool" "__init__") rfl) (c.def_ 64 (d := ⟨("BadPool", some "__init__"), "__init__", "BadPool.__init__", defArgs sI_BadPool, defBody sI_BadPool, defScope sI_BadPool, [], []⟩) rfl)
  obtain ⟨c57, p⟩ := ba p
  obtain ⟨e57⟩ := ecOf "BadGoal" "BadGoal.__init__" ["what"] sI_BadGoal Z c57 (c.fact 129 (f := .glo "BadGoal") rfl) (c.fact 130 (f := .meth "BadGoal" "__init__") rfl) (c.def_ 65 (d := ⟨("BadGoal", some "__init__"), "__init__", "BadGoal.__init__", defArgs sI_BadGoal, defBody sI_BadGoal, defScope sI_BadGoal, [], []⟩) rfl)
  obtain ⟨c58, p⟩ := ba p
  obtain ⟨e58⟩ := ecOf "NothingLeft" "NothingLeft.__init__" ["many"] sI_NothingLeft Z c58 (c.fact 131 (f := .glo "NothingLeft") rfl) (c.fact 132 (f := .meth "NothingLeft" "__init__") rfl) (c.def_ 66 (d := ⟨("NothingLeft", some "__init__"), "__init__", "NothingLeft.__init__", defArgs sI_NothingLeft, defBody sI_NothingLeft, defScope sI_NothingLeft, [], []⟩) rfl)
  obtain ⟨c59, p⟩ := ba p
  obtain ⟨e59⟩ := ecOf "StillTrial" "StillTrial.__init__" ["deeds"] sI_StillTrial Z c59 (c.fact 133 (f := .glo "StillTrial") rfl) (c.fact 134 (f := .meth "StillTrial" "__init__") rfl) (c.def_ 67 (d := ⟨("StillTrial", some "__init__"), "__init__", "StillTrial.__init__", defArgs sI_StillTrial, defBody sI_StillTrial, defScope sI_StillTrial, [], []⟩) rfl)
  obtain ⟨f0⟩ := faOf "_law_hand" s_law_hand (c.fact 1 (f := .glo "_law_hand") rfl) (c.def_ 0 (d := ⟨("_law_hand", none), "_law_hand", "_law_hand", defArgs s_law_hand, defBody s_law_hand, defScope s_law_hand, [], []⟩) rfl)
  obtain ⟨f1⟩ := faOf "_law_mixed" s_law_mixed (c.fact 2 (f := .glo "_law_mixed") rfl) (c.def_ 1 (d := ⟨("_law_mixed", none), "_law_mixed", "_law_mixed", defArgs s_law_mixed, defBody s_law_mixed, defScope s_law_mixed, [], []⟩) rfl)
  obtain ⟨f2⟩ := faOf "_law_take" s_law_take (c.fact 3 (f := .glo "_law_take") rfl) (c.def_ 2 (d := ⟨("_law_take", none), "_law_take", "_law_take", defArgs s_law_take, defBody s_law_take, defScope s_law_take, [], []⟩) rfl)
  obtain ⟨f3⟩ := faOf "_law_pairs" s_law_pairs (c.fact 4 (f := .glo "_law_pairs") rfl) (c.def_ 3 (d := ⟨("_law_pairs", none), "_law_pairs", "_law_pairs", defArgs s_law_pairs, defBody s_law_pairs, defScope s_law_pairs, [], []⟩) rfl)
  obtain ⟨f4⟩ := faOf "_law_first" s_law_first (c.fact 5 (f := .glo "_law_first") rfl) (c.def_ 4 (d := ⟨("_law_first", none), "_law_first", "_law_first", defArgs s_law_first, defBody s_law_first, defScope s_law_first, [], []⟩) rfl)
  obtain ⟨f5⟩ := faOf "_law_second" s_law_second (c.fact 6 (f := .glo "_law_second") rfl) (c.def_ 5 (d := ⟨("_law_second", none), "_law_second", "_law_second", defArgs s_law_second, defBody s_law_second, defScope s_law_second, [], []⟩) rfl)
  obtain ⟨f6⟩ := faOf "_law_kinds" s_law_kinds (c.fact 7 (f := .glo "_law_kinds") rfl) (c.def_ 6 (d := ⟨("_law_kinds", none), "_law_kinds", "_law_kinds", defArgs s_law_kinds, defBody s_law_kinds, defScope s_law_kinds, [], []⟩) rfl)
  obtain ⟨f7⟩ := faOf "law" slaw (c.fact 8 (f := .glo "law") rfl) (c.def_ 7 (d := ⟨("law", none), "law", "law", defArgs slaw, defBody slaw, defScope slaw, [], []⟩) rfl)
  exact ⟨⟨⟨ga K "LetterError", He.eqO_ok gL, cL.err Z rfl rfl rfl, cL.mr, h3⟩, e0, e1, e2, e3, e4, e5, e6, e7, e8, e9, e10, e11, e12, e13, e14, e15, e16, e17, e18, e19, e20, e21, e22, e23, e24, e25, e26, e27, e28, e29, e30, e31, e32, e33, e34, e35, e36, e37, e38, e39, e40, e41, e42, e43, e44, e45, e46, e47, e48, e49, e50, e51, e52, e53, e54, e55, e56, e57, e58, e59, f0, f1, f2, f3, f4, f5, f6, f7, He.eqO_ok (c.fact 9 (f := .free "len") rfl), He.eqO_ok (c.fact 10 (f := .free "abs") rfl), He.eqO_ok (c.fact 11 (f := .free "int") rfl), He.eqO_ok (c.fact 12 (f := .free "range") rfl), He.eqO_ok (c.fact 13 (f := .free "isinstance") rfl), He.eqO_ok (c.fact 14 (f := .free "ValueError") rfl)⟩⟩
end K00
open PySem PySem.W PySem.Calls PyProof.Rows
theorem PySem.Challenge.cw_alreadytold_k00_errors_side_by_side_holds : PySem.Challenge.rw_alreadytold_k00_errors_side_by_side.Holds := by
  w_on; o_law
  refine HandSHeadRun.head_any (r := OpenLaw.row PySem.Challenge.rw_alreadytold_k00_errors_side_by_side) (q := view (OpenLaw.row PySem.Challenge.rw_alreadytold_k00_errors_side_by_side).prog [70]) (H := K00.hk) (ob := K00.ob) (M := 15400) (loose := K00.loose) (d := HandSHeadRun.topDef (OpenLaw.row PySem.Challenge.rw_alreadytold_k00_errors_side_by_side).prog 70) (kwd := []) K00.ob_eq
    (by kernel_rfl) (fun s => by kernel_rfl) K00.run (by kernel_rfl) (by kernel_rfl) (by kernel_rfl) (by rfl) (by first | assumption | decide +kernel) (by decide +kernel) ⟨rfl, rfl, rfl, rfl, rfl, by decide +kernel⟩ ?hw ?hc
  case hw => w_witness2
  case hc =>
    refine L2.walk_ofE (l := PySem.Challenge.rw_alreadytold_k00_errors_side_by_side) (n := 63) (k := 4) (x := "_law_script") (CX := L2.CX0) rfl (by decide) (by kernel_rfl) ⟨rfl, by decide, by decide⟩ ?F (fun _ _ _ _ z => z)
    intro w mg fa h Y G hmg0
    obtain ⟨K, KX, c⟩ := Y
    have hmg : mg ("law" : PySem.Str) = some (.ref fa) := by
      have e : (HandSHeadRun.topDef (OpenLaw.row PySem.Challenge.rw_alreadytold_k00_errors_side_by_side).prog 70).name = ("law" : PySem.Str) := by kernel_rfl
      rw [← e]; exact hmg0
    obtain ⟨A⟩ := K00.all_of c.t.d c.more
    obtain ⟨fd, hb, hF⟩ := K00.fin (l := PySem.Challenge.rw_alreadytold_k00_errors_side_by_side) (w := w) KX G hmg A
    exact ⟨K, fd, K00.spLaw K, KX, hb, fun H a ns hl _ hS => ⟨a, ns, rfl, hS, hl, fun _ => rfl⟩, hF⟩
