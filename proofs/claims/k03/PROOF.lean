import PyProof.Rows.All
import Wide.All
import OpenK.AllK
import Wide.FinOn
import HandS.ForMost
import HandS.Defaults
import HandS.Codes
import HandS.Evl
import HandS.Exc
import HandS.ExcInit
import HandS.IsInst
import KE.KExcInit
import KE.KExcIs
import HandS.Zip
import KE.GoesMore
import KE.GoesZip
import KE.GoesEnum
import HandS.ClsMeth
import HandS.TupSets
import HandS.FStr
import HandS.SlotsOwn
import PyProof.InstEq
import HandS.Style
import HandS.Replace
import HandS.MakeKwOnly
import HandS.Property
import HandS.HeadNt
import HandS.HeadHook4
import HandS.HotCalls
import HandS.ExcField
import HandS.Lambda
import HandS.TryMany
import KE.KDflt
import HandS.Nested
import HandS.HeadWalk
import HandS.DictComp
import HandS.More
import HandS.Strs
import KE.KIndexOf
import KE.KDictZip
import HandS.Star
import KE.KDictDisplayH
import HandS.TupMul
import HandS.DictTup
import KE.DataMinMax
import HandS.SortKw
import HandS.Text
import PyProof.Rows.StrMul
import PyProof.Rows.StrFit
import HandS.Sort
import HandS.TupAny
import HandS.HeadHook1
import HandS.Conv
import HandS.Head0
import HandS.Head1
import HandS.Head2
import HandS.HeadEnd
import PySem.Challenge.RW_othersknow_k03_words_and_far_words
set_option Elab.async false
set_option linter.all false
set_option maxRecDepth 100000
set_option maxHeartbeats 0
namespace HkY
open PySem PySem.W PySem.Calls PyProof.Rows He He5
def obsY (fa : List Fa) (fn : List DefA) (ex : Frag → Bool) (K : Frag) : He.AlD := (ex K && ((fa.all fun f => f.ok K) && fn.all fun d => d.ok K), fn.map fun d => fnA K (d.at_ K))
def valY (fn : List DefA) : He.AlD := (true, fn.map DefA.val)
def obsYG (n : Nat) (fa : List Fa) (fn : List DefA) (ex : Frag → Bool) (g : Addr → Option Obj) : He.AlD := obsY fa fn ex (frT g (asA g n))
structure SaysY (fa : List Fa) (fn : List DefA) (ex : Frag → Bool) (K : Frag) : Prop where
  eq : obsY fa fn ex K = valY fn
def hookY (n : Nat) (fa : List Fa) (fn : List DefA) (ex : Frag → Bool) : PySem.W.Hook where
  α := He.AlD
  obs := fun s => obsYG n fa fn ex s.heap.get?
  val := fun _ => valY fn
  says := fun _ h => ∃ K : Frag, K.In h ∧ SaysY fa fn ex K
  of := fun _ _ e => ⟨_, frT_in, ⟨e⟩⟩
  keeps := fun _ _ _ ⟨K, hK, c⟩ k => ⟨K, Frag.In.keeps hK k, c⟩
theorem obsYG_eq {n : Nat} {fa : List Fa} {fn : List DefA} {ex : Frag → Bool} {g : Addr → Option Obj} {s : Shared} (h : ∀ a, g a = s.heap.get? a) : obsYG n fa fn ex g = (hookY n fa fn ex).obs s := by
  have e : g = s.heap.get? := funext h
  rw [e] <;> rfl
section
variable {fa : List Fa} {fn : List DefA} {ex : Frag → Bool} {K : Frag}
theorem SaysY.more (c : SaysY fa fn ex K) : ex K = true := (ba (show (ex K && ((fa.all fun f => f.ok K) && fn.all fun d => d.ok K)) = true from congrArg (fun z : He.AlD => z.1) c.eq)).1
theorem SaysY.fact (c : SaysY fa fn ex K) (i : Nat) {f : Fa} (h : fa[i]? = some f := by rfl) : f.ok K = true := by
  have c1 := (ba (ba (show (ex K && ((fa.all fun f => f.ok K) && fn.all fun d => d.ok K)) = true from congrArg (fun z : He.AlD => z.1) c.eq)).2).1
  exact List.all_eq_true.mp c1 f (List.mem_of_getElem? h)
theorem SaysY.def_ (c : SaysY fa fn ex K) (i : Nat) {d : DefA} (h : fn[i]? = some d := by rfl) : ∃ fd, L2.FunD K d.name d.qual d.params d.body d.scope (d.dvs K) (d.kws K) (d.at_ K) fd := by
  have c2 := (ba (ba (show (ex K && ((fa.all fun f => f.ok K) && fn.all fun d => d.ok K)) = true from congrArg (fun z : He.AlD => z.1) c.eq)).2).2
  have e : fn.map (fun d => fnA K (d.at_ K)) = fn.map DefA.val := congrArg (fun z : He.AlD => z.2) c.eq
  have e2 : (fn.map fun d => fnA K (d.at_ K))[i]? = (fn.map DefA.val)[i]? := by rw [e]
  rw [List.getElem?_map, List.getElem?_map, h] at e2
  exact DefA.funD (Option.some.inj e2) (List.all_eq_true.mp c2 d (List.mem_of_getElem? h))
end
/-- a property of the class at C -/
def propB (K : Frag) (C : Addr) (f : PySem.Str) : Bool := decide (findIn K (.ref C) f = some (some (.ref (ma K C f)))) && (decide (specialIn K (.ref (ma K C f)) "__get__" = some (some (.builtin "property.__get__"))) && (decide (takesIn K (.ref (ma K C f)) = some true) &&
  (match recIn K (ma K C f) "property" with | some (.ref _ :: _) => true | _ => false)))
theorem propB_ok {K : Frag} {C : Addr} {f : PySem.Str} (h : propB K C f = true) : L2.PropOf K C f (ma K C f) (wf K C "property" f) := by
  obtain ⟨h1, h⟩ := ba h
  obtain ⟨h2, h⟩ := ba h
  obtain ⟨h3, h4⟩ := ba h
  refine ⟨of_decide_eq_true h1, of_decide_eq_true h2, of_decide_eq_true h3, ?_⟩
  unfold wf
  split at h4
  · rename_i g r e
    exact ⟨r, by rw [e]⟩
  · cases h4
/-- a constant, a whole number, of the class at C -/
def conB (K : Frag) (C : Addr) (f : PySem.Str) (n : Int) : Bool := readsIn K C (.type "type") && (decide (specialIn K (.ref C) "__getattribute__" = some (some (.builtin "type.__getattribute__"))) && (match findCls K (.ref C) (.type "type") f with | some (.val (.int j _)) => decide (j = n) | _ => false))
theorem conB_ok {K : Frag} {C : Addr} {f : PySem.Str} {n : Int} (h : conB K C f n = true) : ∃ mc u, ClX.CRead K C mc ∧ ClX.CVal K C mc f (.int n) u := by
  obtain ⟨h1, h⟩ := ba h
  obtain ⟨h2, h3⟩ := ba h
  split at h3
  · rename_i j t e
    have q := of_decide_eq_true h3
    subst q
    exact ⟨.type "type", .int j t, ⟨h1, of_decide_eq_true h2⟩, ⟨e, ⟨t, rfl⟩⟩⟩
  · cases h3
end HkY
namespace HkZ
open PySem PySem.W PySem.Calls PyProof.Rows He He5
def lawD : He.Defn := ("law", none)
def obsZ (n : Nat) (fa : List Fa) (fn : List DefA) (ex : Frag → Bool) (g : Addr → Option Obj) : He.AlD :=
  ((HkY.obsY fa fn ex (frT g (asA g n))).1 && He.tabsB g [lawD] (frT g (asA g n)), (HkY.obsY fa fn ex (frT g (asA g n))).2)
structure SaysZ (fa : List Fa) (fn : List DefA) (ex : Frag → Bool) (h : Heap) (K : Frag) : Prop where
  y : HkY.SaysY fa fn ex K
  hd : codeHdIn K (He.cT K lawD).1 (He.cT K lawD).2 = true
  out : K.lookup (He.cT K lawD).2 = none
  empty : h.get? (He.cT K lawD).2 = some { cls := .none, data := .fields #[] }
theorem saysZ_of {n : Nat} {fa : List Fa} {fn : List DefA} {ex : Frag → Bool} {h : Heap} (e : obsZ n fa fn ex h.get? = HkY.valY fn) : SaysZ fa fn ex h (frT h.get? (asA h.get? n)) := by
  have e1 : ((HkY.obsY fa fn ex (frT h.get? (asA h.get? n))).1 && He.tabsB h.get? [lawD] (frT h.get? (asA h.get? n))) = true := congrArg (fun z : He.AlD => z.1) e
  have e2 : (HkY.obsY fa fn ex (frT h.get? (asA h.get? n))).2 = fn.map DefA.val := congrArg (fun z : He.AlD => z.2) e
  obtain ⟨h1, h2⟩ := ba e1
  unfold He.tabsB at h2
  obtain ⟨h3, h4⟩ := ba (List.all_eq_true.mp h2 lawD List.mem_cons_self)
  obtain ⟨o, q, z⟩ : ∃ o, h.get? (He.cT (frT h.get? (asA h.get? n)) lawD).2 = some o ∧ He.emptyTab o = true := by
    cases q : h.get? (He.cT (frT h.get? (asA h.get? n)) lawD).2 with
    | none =>
      rw [q] at h4
      cases h4
    | some o =>
      rw [q] at h4
      exact ⟨o, rfl, h4⟩
  refine ⟨⟨Prod.ext (h1.trans rfl) e2⟩, h3, He.frT_none q z, ?_⟩
  rw [q, He.emptyTab_eq z]
def hookZ (n : Nat) (fa : List Fa) (fn : List DefA) (ex : Frag → Bool) : PySem.W.Hook where
  α := He.AlD
  obs := fun s => obsZ n fa fn ex s.heap.get?
  val := fun _ => HkY.valY fn
  says := fun _ h => ∃ K : Frag, K.In h ∧ SaysZ fa fn ex h K
  of := fun _ _ e => ⟨_, frT_in, saysZ_of e⟩
  keeps := fun _ _ _ ⟨K, hK, c⟩ k => ⟨K, Frag.In.keeps hK k, ⟨c.y, c.hd, c.out, k _ _ c.empty⟩⟩
theorem obsZ_eq {n : Nat} {fa : List Fa} {fn : List DefA} {ex : Frag → Bool} {g : Addr → Option Obj} {s : Shared} (h : ∀ a, g a = s.heap.get? a) : obsZ n fa fn ex g = (hookZ n fa fn ex).obs s := by
  have e : g = s.heap.get? := funext h
  rw [e] <;> rfl
end HkZ
namespace HkW
open PySem PySem.W PySem.Calls PyProof.Rows He He5 HkZ
def obsW (as : List Addr) (fa : List Fa) (fn : List DefA) (ex : Frag → Bool) (g : Addr → Option Obj) : He.AlD :=
  ((HkY.obsY fa fn ex (frT g as)).1 && He.tabsB g [lawD] (frT g as), (HkY.obsY fa fn ex (frT g as)).2)
theorem saysW_of {as : List Addr} {fa : List Fa} {fn : List DefA} {ex : Frag → Bool} {h : Heap} (e : obsW as fa fn ex h.get? = HkY.valY fn) : SaysZ fa fn ex h (frT h.get? as) := by
  have e1 : ((HkY.obsY fa fn ex (frT h.get? as)).1 && He.tabsB h.get? [lawD] (frT h.get? as)) = true := congrArg (fun z : He.AlD => z.1) e
  have e2 : (HkY.obsY fa fn ex (frT h.get? as)).2 = fn.map DefA.val := congrArg (fun z : He.AlD => z.2) e
  obtain ⟨h1, h2⟩ := ba e1
  unfold He.tabsB at h2
  obtain ⟨h3, h4⟩ := ba (List.all_eq_true.mp h2 lawD List.mem_cons_self)
  obtain ⟨o, q, z⟩ : ∃ o, h.get? (He.cT (frT h.get? as) lawD).2 = some o ∧ He.emptyTab o = true := by
    cases q : h.get? (He.cT (frT h.get? as) lawD).2 with
    | none =>
      rw [q] at h4
      cases h4
    | some o =>
      rw [q] at h4
      exact ⟨o, rfl, h4⟩
  refine ⟨⟨Prod.ext (h1.trans rfl) e2⟩, h3, He.frT_none q z, ?_⟩
  rw [q, He.emptyTab_eq z]
def hookW (as : List Addr) (fa : List Fa) (fn : List DefA) (ex : Frag → Bool) : PySem.W.Hook where
  α := He.AlD
  obs := fun s => obsW as fa fn ex s.heap.get?
  val := fun _ => HkY.valY fn
  says := fun _ h => ∃ K : Frag, K.In h ∧ SaysZ fa fn ex h K
  of := fun _ _ e => ⟨_, frT_in, saysW_of e⟩
  keeps := fun _ _ _ ⟨K, hK, c⟩ k => ⟨K, Frag.In.keeps hK k, ⟨c.y, c.hd, c.out, k _ _ c.empty⟩⟩
theorem obsW_eq {as : List Addr} {fa : List Fa} {fn : List DefA} {ex : Frag → Bool} {g : Addr → Option Obj} {s : Shared} (h : ∀ a, g a = s.heap.get? a) : obsW as fa fn ex g = (hookW as fa fn ex).obs s := by
  have e : g = s.heap.get? := funext h
  rw [e] <;> rfl
end HkW
namespace L2
open PySem PySem.Spec PyProof.Rows
def tagNs : List Str := ["tag", "given", "most", "name", "index", "limit", "word", "line"]
def tagB (K : PySem.W.Frag) (C : Addr) : Bool := xfB K C && tagNs.all fun n => decide (PySem.W.findIn K (.ref C) n = some none)
end L2
namespace K03
open PySem L2 Evl
def raB (K : PySem.W.Frag) (C : Addr) : Bool := PySem.W.excInitIn K C PySem.HandSPX.veTail "ValueError.__new__" && (PySem.W.excOver K C PySem.HandSPX.veTail && (PySem.W.hasDictIn K C && (decide (PySem.W.findIn K (.ref C) "__setattr__" = some (some (.builtin "object.__setattr__"))) && (decide (PySem.W.findIn K (.ref C) "__getattribute__" = some (some (.builtin "BaseException.__getattribute__"))) && (decide (PySem.W.findIn K (.ref C) "__getattr__" = some none) && (decide (PySem.W.subIn K (.ref C) (.type "BaseException") = some true) && (decide (PySem.W.typeIn K (.ref C) = some (.type "type")) && (PySem.W.keepIn K (.ref C) && (tagB K C && (decide (PySem.W.findIn K (.ref C) "__init__" = some (some (.ref (He.ma K C "__init__")))) && (decide (PySem.W.typeIn K (.ref (He.ma K C "__init__")) = some (.type "function")))))))))))))
def errB (K : PySem.W.Frag) (C1 C : Addr) : Bool := tagB K C && decide (PySem.W.exmOne K (.ref C) (.ref C1) = some true)
def top (i : Nat) : Stmt := PySem.Challenge.pw_othersknow_k03_words_and_far_words.main.body.getD i (.Pass ⟨0, 0, 0, 0⟩)
abbrev sBag : Stmt := top 28
abbrev sPull : Stmt := top 29
abbrev sOf : Stmt := top 30
abbrev sCop : Stmt := top 8
abbrev sSame : Stmt := top 31
abbrev sNum : Stmt := top 3
abbrev sIdx : Stmt := top 4
abbrev sLst : Stmt := top 6
abbrev sGls : Stmt := top 23
abbrev sAlp : Stmt := top 21
abbrev sClb : Stmt := top 7
abbrev sRsh : Stmt := top 24
abbrev sFw : Stmt := top 25
abbrev sMi : Stmt := inClass (top 26) 1
abbrev sMalpha : Stmt := inClass (top 26) 2
abbrev sMst : Stmt := inClass (top 26) 3
abbrev sMmv : Stmt := inClass (top 26) 4
abbrev sMre : Stmt := inClass (top 26) 5
abbrev sMln : Stmt := inClass (top 26) 18
abbrev sMrp : Stmt := inClass (top 26) 19
abbrev sMeq : Stmt := inClass (top 26) 17
abbrev sSg : Stmt := top 35
abbrev sDr : Stmt := top 36
abbrev sLm : Stmt := top 37
abbrev sMd : Stmt := top 38
abbrev sFeld : Stmt := top 32
abbrev sTry : Stmt := top 33
abbrev sTries : Stmt := top 34
abbrev sWd : Stmt := top 22
abbrev sRqs : Stmt := inClass (top 26) 12
abbrev sRqw : Stmt := inClass (top 26) 13
abbrev sWk : Stmt := inClass (top 26) 15
abbrev sBh : Stmt := inClass (top 26) 6
abbrev sOds : Stmt := top 43
abbrev sOdw : Stmt := top 44
abbrev sRpt : Stmt := inClass (top 26) 14
abbrev sWof : Stmt := inClass (top 26) 16
abbrev sFar : Stmt := inClass (top 26) 7
abbrev sIc : Stmt := top 5
abbrev iInvalidState : Stmt := inClass (top 15) 0
abbrev iInvalidWord : Stmt := inClass (top 16) 0
abbrev sWto : Stmt := inClass (top 26) 8
abbrev iInvalidAlphabet : Stmt := inClass (top 12) 0
abbrev iInvalidStates : Stmt := inClass (top 13) 0
abbrev iInvalidMove : Stmt := inClass (top 14) 0
abbrev sMwt : Stmt := inClass (top 26) 8
abbrev sOdc : Stmt := top 45
abbrev sLg : Stmt := top 39
abbrev sTxt : Stmt := top 41
abbrev sLd : Stmt := top 40
abbrev sLw : Stmt := top 42
abbrev sLaw : Stmt := top 46
abbrev cM (K : PySem.W.Frag) : Addr := He.ga K "Machine"
abbrev iInvalidCount : Stmt := inClass (top 17) 0
def exB (K : PySem.W.Frag) : Bool := HkY.conB K (cM K) "STATES" 24 && (raB K (He.ga K "InvalidState") && (raB K (He.ga K "InvalidWord") && (raB K (He.ga K "InvalidCount") && (errB K (He.ga K "TeamError") (He.ga K "InvalidState") && (errB K (He.ga K "TeamError") (He.ga K "InvalidWord") && (errB K (He.ga K "TeamError") (He.ga K "InvalidCount")))))))
def fn : List He5.DefA := [
  ⟨fun K => He.ga K "is_number", "is_number", "is_number", defArgs sNum, defBody sNum, defScope sNum, [], []⟩,
  ⟨fun K => He.ga K "is_index", "is_index", "is_index", defArgs sIdx, defBody sIdx, defScope sIdx, [], []⟩,
  ⟨fun K => He.ga K "is_list", "is_list", "is_list", defArgs sLst, defBody sLst, defScope sLst, [], []⟩,
  ⟨fun K => He.ga K "climbs", "climbs", "climbs", defArgs sClb, defBody sClb, defScope sClb, [], []⟩,
  ⟨fun K => He.ga K "is_alphabet", "is_alphabet", "is_alphabet", defArgs sAlp, defBody sAlp, defScope sAlp, [], []⟩,
  ⟨fun K => He.ga K "require_shape", "require_shape", "require_shape", defArgs sRsh, defBody sRsh, defScope sRsh, [], []⟩,
  ⟨fun K => He.ga K "is_goals", "is_goals", "is_goals", defArgs sGls, defBody sGls, defScope sGls, [], []⟩,
  ⟨fun K => He.ga K "first_words", "first_words", "first_words", defArgs sFw, defBody sFw, defScope sFw, [], []⟩,
  ⟨fun K => He.ga K "is_word", "is_word", "is_word", defArgs sWd, defBody sWd, defScope sWd, [], []⟩,
  ⟨fun K => He.ga K "is_count", "is_count", "is_count", defArgs sIc, defBody sIc, defScope sIc, [], []⟩,
  ⟨fun K => He.ga K "_law_bag", "_law_bag", "_law_bag", defArgs sBag, defBody sBag, defScope sBag, [], []⟩,
  ⟨fun K => He.ga K "_law_pull", "_law_pull", "_law_pull", defArgs sPull, defBody sPull, defScope sPull, [], []⟩,
  ⟨fun K => He.ga K "_law_of", "_law_of", "_law_of", defArgs sOf, defBody sOf, defScope sOf, [], []⟩,
  ⟨fun K => He.ga K "_law_same", "_law_same", "_law_same", defArgs sSame, defBody sSame, defScope sSame, [], []⟩,
  ⟨fun K => He.ga K "_law_signs", "_law_signs", "_law_signs", defArgs sSg, defBody sSg, defScope sSg, [], []⟩,
  ⟨fun K => He.ga K "_law_drawn", "_law_drawn", "_law_drawn", defArgs sDr, defBody sDr, defScope sDr, [], []⟩,
  ⟨fun K => He.ga K "_law_machine", "_law_machine", "_law_machine", defArgs sLm, defBody sLm, defScope sLm, [], []⟩,
  ⟨fun K => He.ga K "_law_made", "_law_made", "_law_made", defArgs sMd, defBody sMd, defScope sMd, [], []⟩,
  ⟨fun K => He.ga K "_law_goal", "_law_goal", "_law_goal", defArgs sLg, defBody sLg, defScope sLg, [], []⟩,
  ⟨fun K => He.ga K "_law_led", "_law_led", "_law_led", defArgs sLd, defBody sLd, defScope sLd, [], []⟩,
  ⟨fun K => He.ga K "_law_words_of", "_law_words_of", "_law_words_of", defArgs sLw, defBody sLw, defScope sLw, [], []⟩,
  ⟨fun K => He.ga K "_law_odd_word", "_law_odd_word", "_law_odd_word", defArgs sOdw, defBody sOdw, defScope sOdw, [], []⟩,
  ⟨fun K => He.ga K "_law_odd_state", "_law_odd_state", "_law_odd_state", defArgs sOds, defBody sOds, defScope sOds, [], []⟩,
  ⟨fun K => He.ga K "_law_odd_count", "_law_odd_count", "_law_odd_count", defArgs sOdc, defBody sOdc, defScope sOdc, [], []⟩,
  ⟨fun K => He.ga K "law", "law", "law", defArgs sLaw, defBody sLaw, defScope sLaw, [], []⟩,
  ⟨fun K => He.ma K (cM K) "__init__", "__init__", "Machine.__init__", defArgs sMi, defBody sMi, defScope sMi, [], []⟩,
  ⟨fun K => He.ma K (cM K) "require_state", "require_state", "Machine.require_state", defArgs sRqs, defBody sRqs, defScope sRqs, [], []⟩,
  ⟨fun K => He.ma K (cM K) "require_word", "require_word", "Machine.require_word", defArgs sRqw, defBody sRqw, defScope sRqw, [], []⟩,
  ⟨fun K => He.ma K (cM K) "walk", "walk", "Machine.walk", defArgs sWk, defBody sWk, defScope sWk, [], []⟩,
  ⟨fun K => He.ma K (cM K) "behind", "behind", "Machine.behind", defArgs sBh, defBody sBh, defScope sBh, [], [("state", .int 0)]⟩,
  ⟨fun K => He.ma K (cM K) "require_part", "require_part", "Machine.require_part", defArgs sRpt, defBody sRpt, defScope sRpt, [], []⟩,
  ⟨fun K => He.ma K (cM K) "walk_often", "walk_often", "Machine.walk_often", defArgs sWof, defBody sWof, defScope sWof, [], []⟩,
  ⟨fun K => He.ma K (cM K) "far", "far", "Machine.far", defArgs sFar, defBody sFar, defScope sFar, [], [("state", .int 0)]⟩,
  ⟨fun K => He.ma K (cM K) "word_to", "word_to", "Machine.word_to", defArgs sMwt, defBody sMwt, defScope sMwt, [], []⟩,
  ⟨fun K => He.ga K "copied", "copied", "copied", defArgs sCop, defBody sCop, defScope sCop, [], []⟩,
  ⟨fun K => He.ga K "_law_text", "_law_text", "_law_text", defArgs sTxt, defBody sTxt, defScope sTxt, [], []⟩,
  ⟨fun K => He.ga K "_law_field", "_law_field", "_law_field", defArgs sFeld, defBody sFeld, defScope sFeld, [], []⟩,
  ⟨fun K => He.ga K "_law_try", "_law_try", "_law_try", defArgs sTry, defBody sTry, defScope sTry, [], []⟩,
  ⟨fun K => He.ga K "_law_tries", "_law_tries", "_law_tries", defArgs sTries, defBody sTries, defScope sTries, [], []⟩,
  ⟨fun K => He.ma K (He.ga K "InvalidState") "__init__", "__init__", "InvalidState.__init__", defArgs iInvalidState, defBody iInvalidState, defScope iInvalidState, [], []⟩,
  ⟨fun K => He.ma K (He.ga K "InvalidWord") "__init__", "__init__", "InvalidWord.__init__", defArgs iInvalidWord, defBody iInvalidWord, defScope iInvalidWord, [], []⟩,
  ⟨fun K => He.ma K (He.ga K "InvalidCount") "__init__", "__init__", "InvalidCount.__init__", defArgs iInvalidCount, defBody iInvalidCount, defScope iInvalidCount, [], []⟩]
def fa : List He.Fa := [.glo "is_number", .glo "is_index", .glo "is_list", .glo "climbs", .glo "is_alphabet", .glo "require_shape", .glo "is_goals", .glo "first_words", .glo "is_word", .glo "is_count", .glo "_law_bag", .glo "_law_pull", .glo "_law_of", .glo "_law_same", .glo "_law_signs", .glo "_law_drawn", .glo "_law_machine", .glo "_law_made", .glo "_law_goal", .glo "_law_led", .glo "_law_words_of", .glo "_law_odd_word", .glo "_law_odd_state", .glo "_law_odd_count", .glo "law", .glo "Machine", .free "isinstance", .free "list", .free "tuple", .free "bool", .free "int", .free "str", .free "len", .free "all", .free "zip", .free "enumerate", .free "range", .free "min", .free "dict", .keep "is_number", .keep "is_index", .keep "is_list", .keep "climbs", .keep "is_alphabet", .keep "require_shape", .keep "is_goals", .keep "first_words", .keep "is_word", .keep "is_count", .keep "_law_bag", .keep "_law_pull", .keep "_law_of", .keep "_law_same", .keep "_law_signs", .keep "_law_drawn", .keep "_law_machine", .keep "_law_made", .keep "_law_goal", .keep "_law_led", .keep "_law_words_of", .keep "_law_odd_word", .keep "_law_odd_state", .keep "_law_odd_count", .int "MOST_LETTERS" 3, .int "MOST_COUNT" 1000000000000000000000000000000, .cls "Machine", .noat "Machine" "signs", .noat "Machine" "rows", .noat "Machine" "roads", .meth "Machine" "require_state", .meth "Machine" "require_word", .meth "Machine" "walk", .meth "Machine" "behind", .meth "Machine" "require_part", .meth "Machine" "walk_often", .meth "Machine" "far", .meth "Machine" "word_to", .mkr "Machine", .glo "copied", .keep "copied", .glo "_law_text", .keep "_law_text", .glo "_law_field", .keep "_law_field", .glo "_law_try", .keep "_law_try", .glo "_law_tries", .keep "_law_tries", .glo "TeamError", .glo "Missing", .glo "NothingLeft", .glo "InvalidState", .glo "InvalidWord", .glo "InvalidCount"]
abbrev R : PySem.W.OpenRow := PySem.W.OpenLaw.row PySem.Challenge.rw_othersknow_k03_words_and_far_words
def asL : List Addr := [3, 6, 4, 21, 28, 35, 42, 49, 54, 59, 69, 82, 102, 121, 140, 159, 178, 197, 216, 224, 229, 234, 241, 248, 395, 406, 413, 420, 425, 432, 439, 444, 451, 456, 461, 466, 473, 480, 485, 492, 499, 506, 513, 520, 0, 20, 27, 34, 41, 48, 53, 58, 68, 81, 101, 120, 139, 158, 177, 196, 215, 223, 228, 233, 240, 247, 394, 405, 412, 419, 424, 431, 438, 443, 450, 455, 460, 465, 472, 479, 484, 491, 498, 505, 512, 519, 15, 16, 17, 18, 19, 22, 23, 24, 25, 26, 29, 30, 31, 32, 33, 36, 37, 38, 39, 40, 43, 44, 45, 46, 47, 50, 51, 52, 55, 56, 57, 67, 70, 80, 83, 99, 100, 118, 119, 137, 138, 156, 157, 175, 176, 194, 195, 213, 214, 217, 220, 221, 222, 225, 226, 227, 230, 231, 232, 235, 236, 237, 238, 239, 242, 243, 244, 245, 246, 260, 268, 276, 281, 288, 296, 304, 311, 316, 325, 335, 343, 350, 357, 364, 371, 378, 385, 392, 393, 396, 397, 400, 401, 402, 403, 404, 407, 408, 409, 410, 411, 414, 415, 416, 417, 418, 421, 422, 423, 426, 427, 428, 429, 430, 433, 434, 435, 436, 437, 440, 441, 442, 445, 446, 447, 448, 449, 452, 453, 454, 457, 458, 459, 462, 463, 464, 467, 468, 469, 470, 471, 474, 475, 476, 477, 478, 481, 482, 483, 486, 487, 488, 489, 490, 493, 494, 495, 496, 497, 500, 501, 502, 503, 504, 507, 508, 509, 510, 511, 514, 515, 516, 517, 518, 98, 117, 136, 155, 174, 193, 212, 259, 267, 275, 280, 287, 295, 289, 303, 297, 310, 315, 323, 324, 333, 334, 342, 349, 356, 363, 370, 377, 384, 391, 93, 94, 95, 96, 97, 112, 113, 114, 115, 116, 131, 132, 133, 134, 135, 150, 151, 152, 153, 154, 169, 170, 171, 172, 173, 188, 189, 190, 191, 192, 207, 208, 209, 210, 211, 256, 257, 258, 266, 274, 277, 278, 279, 282, 283, 284, 285, 286, 290, 291, 292, 293, 294, 298, 299, 300, 301, 302, 305, 306, 307, 308, 309, 312, 313, 314, 322, 326, 332, 336, 337, 338, 339, 340, 341, 344, 345, 346, 347, 348, 351, 352, 353, 354, 355, 358, 359, 360, 361, 362, 365, 366, 367, 368, 369, 372, 373, 374, 375, 376, 379, 380, 381, 382, 383, 386, 387, 388, 389, 390, 261, 262, 263, 264, 265, 269, 270, 271, 272, 273, 317, 318, 319, 320, 321, 327, 328, 329, 330, 331, 2]
abbrev hk : PySem.W.Hook := HkW.hookW asL fa fn exB
def ob (s : PySem.W.SharedT) : He.AlD := HkW.obsW asL fa fn exB (HandSHeadRun.getT s)
theorem ob_eq (s : PySem.W.SharedT) : ob s = hk.obs s.abs := HkW.obsW_eq (HandSHeadRun.getT_eq s)
abbrev lse : List Str := "_wall" :: "MOST_COUNT" :: "is_number" :: "is_index" :: "is_count" :: "is_list" :: "climbs" :: "copied" :: "TeamError" :: "Missing" :: "InvalidAlphabet" :: "InvalidStates" :: "InvalidMove" :: "InvalidState" :: "InvalidWord" :: "InvalidCount" :: "NothingLeft" :: "MOST_LETTERS" :: "is_alphabet" :: "is_word" :: "is_goals" :: "require_shape" :: "first_words" :: "Machine" :: "_law_bag" :: "_law_pull" :: "_law_of" :: "_law_same" :: "_law_field" :: "_law_try" :: "_law_tries" :: "_law_signs" :: "_law_drawn" :: "_law_machine" :: "_law_made" :: "_law_goal" :: "_law_led" :: "_law_text" :: "_law_words_of" :: "_law_odd_state" :: "_law_odd_word" :: "_law_odd_count" :: []
theorem run (w : World) : HandSHeadRun.RunEq R (PySem.W.view R.prog [46]) hk ob 20000 lse w := by
  intro os
  kernel_rfl
end K03
/-! The draws: a bag of the script's numbers. What is told of a draw: it lies in its range. -/
namespace K03
open PySem L2 Evl
abbrev FnP (K : PySem.W.Frag) (x : Str) (st : Stmt) (f : Addr) (fd : FuncData) : Prop := FunD K x x (defArgs st) (defBody st) (defScope st) [] [] f fd
/-- the bag at b with its list at l -/
def Bag (H : Hp) (b l : Addr) (ns : List Int) : Prop := b ≠ l ∧ H l = some (.lst (ns.map V.int)) ∧ ns.length ≤ 1000 ∧
  ∃ i j s : Int, H b = some (.lst [.ref l, .int i, .int j, .int s]) ∧ 0 ≤ i ∧ 0 ≤ j ∧ 0 ≤ s ∧ s < 2147483579
/-- all but b stands -/
def But (b : Addr) (H H' : Hp) : Prop := ∀ c, c ≠ b → H' c = H c
def spPull : Sp := fun vs H Q _ => ∃ (b l : Addr) (ns : List Int) (m : Int), vs = [.ref b, .int m] ∧ 0 < m ∧ m < 1073741824 ∧ Bag H b l ns ∧
  ∀ (r : Int) (H' : Hp), 0 ≤ r → r < m → Bag H' b l ns → But b H H' → Q (.int r) H'
def spOf (K : PySem.W.Frag) : Sp := fun vs H Q _ => ∃ (b l t : Addr) (ns : List Int) (ts : List V), vs = [.ref b, .ref t] ∧ SqL K H t ts ∧ 0 < ts.length ∧ ts.length < 100000 ∧ t ≠ b ∧ (∀ H', But b H H' → SqL K H' t ts) ∧ Bag H b l ns ∧
  ∀ (k : Nat) (v : V) (H' : Hp), ts[k]? = some v → Bag H' b l ns → But b H H' → Q v H'
def spBag (K : PySem.W.Frag) : Sp := fun vs H Q _ => ∃ (a : Addr) (ns : List Int), vs = [.ref a] ∧ SqL K H a (ns.map V.int) ∧ ns.length ≤ 1000 ∧
  ∀ (b l : Addr) (ms : List Int) (H' : Hp), Same H H' → H b = none → H l = none → Bag H' b l ms → Q (.ref b) H'
section
variable {P : Program} {w : World} {K : PySem.W.Frag} {mg : Str → Option Value} {base : Heap} {f : Addr} {fd : FuncData}
theorem scP : FnScope ["_law_bag_here", "_law_amount", "_law_cell", "_law_got", "_law_seed"] ["_law_bag_here", "_law_amount"] (defScope sPull) := ⟨rfl, rfl, rfl, by decide +kernel, rfl, by decide +kernel, by decide +kernel⟩
/-- a field of the bag -/
abbrev bx {X : Cx} {p q r : Pos} {i : Int} {j : Nat} (h : PE X (.Name "_law_bag_here" p) (tVar 0) := by exact pv 0) : PE X (.Subscript (.Name "_law_bag_here" p) (.Constant (.int i) j q) r) (tOp (rIxL X.K) (tVar 0) (tC (.int i))) :=
  pe_ix ix_list h pe_int (fun _ _ => rfl)
theorem ok_pull (F : FnP K "_law_pull" sPull f fd) (gL : mg "len" = none) (gI : mg "int" = none) : FnOk P w K mg base CX0 1 f fd ["_law_bag_here", "_law_amount"] spPull := by
  refine F.ok scP (fun vs H Q E h => ?_) (fun cdv A outer s H vs Q E hr h => ?_)
  · obtain ⟨b, l, ns, m, rfl, _⟩ := h
    rfl
  · obtain ⟨b, l, ns, m, rfl, m0, m1, ⟨nbl, hl, hln, i, j, sd, hb, i0, j0, s0, s1⟩, k⟩ := h
    refine ⟨_, PSs.nox (pss_cut
      (ps_if (PW.pt (pw_and (pt_cmpR op_eq (bx (pv 0)) pe_int (nomark _)) (pw_and1 (pt_cmpR op_lt (bx (pv 0)) (pe_callB call_len_seq (by rfl) gL PySem.boot_len (pa_cons (bx (pv 0)) pa_nil)) (nomark _)))))
        (pss_cons (ps_set (i := 2) scP.nd rfl (Or.inl rfl) (pe_ix ix_list (bx (pv 0)) (bx (pv 0)) (fun _ _ => rfl)))
        (pss_cons (ps_asg (pe_op op_add (bx (pv 0)) pe_int) (pg_sub (pv 0) pe_int set_list))
        (pss_one (ps_if (pt_cmpR op_ge (pv 2) (pe_op op_pow pe_int pe_int) (nomark _))
          (pss_one (ps_asg (pv 2) (pg_sub (pv 0) pe_int set_list)))
          (pss_one (ps_asg (pe_op op_mod (pe_callTy call_int1 (by rfl) gI (by decide +kernel) (pa_cons (pe_op op_add (pe_op op_add (pe_op op_mul (bx (pv 0)) pe_int) (pe_op op_mul (pe_op op_mod (pe_callTy call_int1 (by rfl) gI (by decide +kernel) (pa_cons (pv 2) pa_nil)) pe_int) pe_int)) pe_int) pa_nil)) pe_int) (pg_sub (pv 0) pe_int set_list)))))))
        pss_nil)
      (pss_cons (ps_if (pt_cmpR op_gt (bx (pv 0)) pe_int (nomark _))
        (pss_cons (ps_set (i := 3) scP.nd rfl (Or.inl rfl) (pe_op op_mod (pe_callTy call_int1 (by rfl) gI (by decide +kernel) (pa_cons (bx (pv 0)) pa_nil)) (pv 1)))
        (pss_cons (ps_asg (pe_op op_fdiv (bx (pv 0)) (pv 1)) (pg_sub (pv 0) pe_int set_list))
        (pss_one (ps_ret (pv 3)))))
        pss_nil)
      (pss_cons (ps_set (i := 4) scP.nd rfl (Or.inl rfl) (bx (pv 0)))
      (pss_cons (ps_asg (pe_op op_mod (pe_callTy call_int1 (by rfl) gI (by decide +kernel) (pa_cons (pe_op op_add (pe_op op_add (pe_op op_mul (pv 4) (pv 4)) (pe_op op_mul (pv 4) pe_int)) pe_int) pa_nil)) pe_int) (pg_sub (pv 0) pe_int set_list))
      (pss_one (ps_ret (pe_op op_mod (pe_callTy call_int1 (by rfl) gI (by decide +kernel) (pa_cons (pe_op op_add (pe_op op_fdiv (bx (pv 0)) pe_int) (pe_op op_mul (pe_op op_mod (pe_callTy call_int1 (by rfl) gI (by decide +kernel) (pa_cons (bx (pv 0)) pa_nil)) pe_int) pe_int)) pa_nil)) (pv 1)))))))), ?_⟩
    -- what stands between the first if and the rest
    refine ⟨fun σ1 H1 => (∃ u, σ1 = [some (.ref b), some (.int m), u, none, none]) ∧ But b H H1 ∧ ∃ i j sd : Int, H1 b = some (.lst [.ref l, .int i, .int j, .int sd]) ∧ 0 ≤ i ∧ 0 ≤ j ∧ 0 ≤ sd ∧ sd < 2147483579, ?_, ?_⟩
    · -- the first if
      refine ⟨_, rfl, b, _, 2, _, rfl, rfl, SqL.of hb, rfl, rfl, _, rfl, ?_⟩
      refine ite2 (fun ej => ?_) (fun _ => ⟨⟨none, rfl⟩, fun _ _ => rfl, i, j, sd, hb, i0, j0, s0, s1⟩)
      refine ⟨_, rfl, b, _, 1, _, rfl, rfl, SqL.of hb, rfl, _, rfl, b, _, 0, _, rfl, rfl, SqL.of hb, rfl, l, _, rfl, .inl (SqL.of hl), _, _, rfl, rfl, _, rfl, ?_⟩
      refine ite2 (fun hlt => ?_) (fun _ => ⟨⟨none, rfl⟩, fun _ _ => rfl, i, j, sd, hb, i0, j0, s0, s1⟩)
      have hlt' : i < ((ns.map V.int).length : Int) := of_decide_eq_true hlt
      rw [List.length_map] at hlt'
      obtain ⟨n, rfl⟩ : ∃ n : Nat, i = (n : Int) := ⟨i.toNat, by omega⟩
      have hn : n < ns.length := by omega
      have hat : (ns.map V.int)[n]? = some (V.int ns[n]) := by rw [List.getElem?_map, List.getElem?_eq_getElem hn]; rfl
      -- cell = bag[0][bag[1]]
      refine ⟨_, rfl, b, _, 0, _, rfl, rfl, SqL.of hb, rfl, _, rfl, b, _, 1, _, rfl, rfl, SqL.of hb, rfl, l, _, _, _, rfl, rfl, SqL.of hl, atI_nat hat, ?_⟩
      -- bag[1] = bag[1] + 1
      refine ⟨_, rfl, b, _, 1, _, rfl, rfl, SqL.of hb, rfl, _, _, rfl, rfl, _, rfl, b, _, 1, 1, rfl, rfl, hb, rfl, ?_⟩
      refine ⟨_, rfl, _, _, rfl, rfl, (by show (0 : Int) ≤ 18 ∧ (18 : Int) ≤ 1000000 ∧ (10 : Int).natAbs < 2 ^ 64; decide), _, _, rfl, rfl, _, rfl, ?_⟩
      have bb : But b H (upd H b (.lst [.ref l, .int (n : Int), .int j, .int sd])) := fun c hc => upd_ne hc
      refine ite2 (fun hge => ?_) (fun hge => ?_)
      · have hge' : (10 : Int) ^ 18 ≤ ns[n] := of_decide_eq_true hge
        refine ⟨_, rfl, _, rfl, b, _, 2, 2, rfl, rfl, upd_same, rfl, ?_⟩
        refine ⟨⟨_, rfl⟩, fun c hc => by rw [upd_ne hc, upd_ne hc], (n : Int) + 1, ns[n], sd, upd_same, by omega, ?_, s0, s1⟩
        exact Int.le_trans (by decide) hge'
      · refine ⟨_, rfl, b, _, 3, _, rfl, rfl, SqL.of upd_same, rfl, _, _, rfl, rfl, .inl ⟨by omega, by omega⟩, ?_⟩
        refine ⟨_, rfl, .inl ⟨_, rfl, _, _, rfl, rfl, (by show (0 : Int) < 2147483399; decide), _, _, rfl, rfl, .inr ⟨by decide, by decide⟩, _, _, rfl, rfl, _, _, rfl, rfl, .inl ⟨_, rfl, _, _, rfl, rfl, (by show (0 : Int) < 2147483579; decide), ?_⟩⟩⟩
        refine ⟨_, rfl, b, _, 3, 3, rfl, rfl, upd_same, rfl, ?_⟩
        refine ⟨⟨_, rfl⟩, fun c hc => by rw [upd_ne hc, upd_ne hc], (n : Int) + 1, j, _, upd_same, by omega, j0, ?_, ?_⟩
        · exact Int.emod_nonneg _ (by decide)
        · exact Int.emod_lt_of_pos _ (by decide)
    · rintro σ1 H1 ⟨⟨u, rfl⟩, hB, i, j, sd, hb, i0, j0, s0, s1⟩
      have hl1 : H1 l = some (.lst (ns.map V.int)) := (hB l nbl.symm).trans hl
      refine ⟨_, rfl, b, _, 2, _, rfl, rfl, SqL.of hb, rfl, _, _, rfl, rfl, _, rfl, ?_⟩
      refine ite2 (fun hpos => ?_) (fun _ => ?_)
      · have hpos' : (0 : Int) < j := of_decide_eq_true hpos
        refine ⟨_, rfl, b, _, 2, _, rfl, rfl, SqL.of hb, rfl, .inl ⟨_, rfl, _, rfl, _, _, rfl, rfl, m0, ?_⟩⟩
        refine ⟨_, rfl, b, _, 2, _, rfl, rfl, SqL.of hb, rfl, _, rfl, _, _, rfl, rfl, ⟨m0, m1⟩, _, rfl, b, _, 2, 2, rfl, rfl, hb, rfl, ?_⟩
        refine ⟨_, rfl, ?_⟩
        refine k _ _ (Int.emod_nonneg _ (by omega)) (Int.emod_lt_of_pos _ m0) ⟨nbl, by rw [upd_ne nbl.symm]; exact hl1, hln, i, j / m, sd, upd_same, i0, Int.ediv_nonneg j0 (by omega), s0, s1⟩ fun c hc => by rw [upd_ne hc]; exact hB c hc
      · refine ⟨_, rfl, b, _, 3, _, rfl, rfl, SqL.of hb, rfl, ?_⟩
        refine ⟨_, rfl, _, rfl, _, _, rfl, rfl, .inl ⟨by omega, by omega⟩, _, rfl, _, _, rfl, rfl, .inl ⟨by omega, by omega⟩, _, _, rfl, rfl, _, _, rfl, rfl, .inl ⟨_, rfl, _, _, rfl, rfl, (by show (0 : Int) < 2147483579; decide), ?_⟩⟩
        refine ⟨_, rfl, b, _, 3, 3, rfl, rfl, hb, rfl, ?_⟩
        refine ⟨_, rfl, b, _, 3, _, rfl, rfl, SqL.of upd_same, rfl, _, _, rfl, rfl, ⟨by decide, by decide⟩, _, rfl, b, _, 3, _, rfl, rfl, SqL.of upd_same, rfl, .inl ⟨_, rfl, _, _, rfl, rfl, (by show (0 : Int) < 8111; decide), _, _, rfl, rfl, .inr ⟨by decide, by decide⟩, _, _, rfl, rfl, .inl ⟨_, rfl, _, rfl, _, _, rfl, rfl, m0, ?_⟩⟩⟩
        refine k _ _ (Int.emod_nonneg _ (by omega)) (Int.emod_lt_of_pos _ m0) ⟨nbl, by rw [upd_ne nbl.symm]; exact hl1, hln, i, j, _, upd_same, i0, j0, Int.emod_nonneg _ (by decide), Int.emod_lt_of_pos _ (by decide)⟩ fun c hc => by rw [upd_ne hc]; exact hB c hc
theorem scO : FnScope ["_law_bag_here", "_law_things"] ["_law_bag_here", "_law_things"] (defScope sOf) := ⟨rfl, rfl, rfl, by decide +kernel, rfl, by decide +kernel, by decide +kernel⟩
theorem ok_of {fP : Addr} {fdP : FuncData} (F : FnP K "_law_of" sOf f fd) (FP : FnP K "_law_pull" sPull fP fdP) (gP : mg "_law_pull" = some (.ref fP)) (gL : mg "len" = none) (gI : mg "int" = none) :
    FnOk P w K mg base CX0 2 f fd ["_law_bag_here", "_law_things"] (spOf K) := by
  have GP : FnOk P w K mg base CX0 1 fP fdP ["_law_bag_here", "_law_amount"] spPull := ok_pull FP gL gI
  have bP : Binds K fdP ["_law_bag_here", "_law_amount"] [] := FP.bindsN fun _ _ _ _ _ _ us hl => match us, hl with | [_, _], _ => rfl
  refine F.ok scO (fun vs H Q E h => ?_) (fun cdv A outer s H vs Q E hr h => ?_)
  · obtain ⟨b, l, t, ns, ts, rfl, _⟩ := h
    rfl
  · obtain ⟨b, l, t, ns, ts, rfl, ht, h0, h1, nbt, keep, hB, k⟩ := h
    refine ⟨_, PSs.nox (pss_one (ps_ret (pe_ix ix_list (pv 1) (pe_call GP hr rfl gP FP.kp bP .nil pass0 (pa_cons (pv 0) (pa_cons (pe_callB call_len_seq (by rfl) gL PySem.boot_len (pa_cons (pv 1) pa_nil)) pa_nil))) (fun _ _ => rfl)))), ?_⟩
    refine ⟨_, rfl, _, rfl, _, rfl, t, _, rfl, .inl ht, b, l, ns, _, rfl, by omega, by omega, hB, fun r H' r0 r1 hB' hk => ?_⟩
    obtain ⟨n, rfl⟩ : ∃ n : Nat, r = (n : Int) := ⟨r.toNat, by omega⟩
    have hn : n < ts.length := by omega
    exact ⟨t, ts, _, ts[n], rfl, rfl, keep H' hk, atI_nat (List.getElem?_eq_getElem hn), k n _ H' (List.getElem?_eq_getElem hn) hB' hk⟩
theorem scB : FnScope ["_law_script", "_law_salt", "_law_cell"] ["_law_script"] (defScope sBag) := ⟨rfl, rfl, rfl, by decide +kernel, rfl, by decide +kernel, by decide +kernel⟩
theorem cut_map (ns : List Int) (lo hi : Option Int) : ∃ ms : List Int, cutV (ns.map V.int) lo hi = ms.map V.int ∧ ms.length ≤ ns.length := by
  refine ⟨(ns.drop (HT.sIx (ns.map V.int).length 0 lo)).take (HT.sIx (ns.map V.int).length (ns.map V.int).length hi - HT.sIx (ns.map V.int).length 0 lo), ?_, ?_⟩
  · unfold cutV
    rw [List.map_take, List.map_drop]
  · rw [List.length_take, List.length_drop]
    omega
theorem ok_bag (F : FnP K "_law_bag" sBag f fd) (gI : mg "int" = none) (gL : mg "list" = none) : FnOk P w K mg base CX0 1 f fd ["_law_script"] (spBag K) := by
  refine F.ok scB (fun vs H Q E h => ?_) (fun cdv A outer s H vs Q E hr h => ?_)
  · obtain ⟨a, ns, rfl, _⟩ := h
    rfl
  · obtain ⟨a, ns, rfl, hS, hlen, k⟩ := h
    refine ⟨_, PSs.nox (pss_cons (ps_set (i := 1) scB.nd rfl (Or.inl rfl) pe_int)
      (pss_cons (ps_for PassesOwn.never rfl (pi_list (pe_slice sl_list (pv 0) po_none (po_some pe_int))) (pg_name (i := 2) scB.nd rfl (Or.inl rfl))
        (pss_one (ps_set (i := 1) scB.nd rfl (Or.inl rfl) (pe_op op_mod (pe_callTy call_int1 (by rfl) gI (by decide +kernel) (pa_cons (pe_op op_add (pe_op op_add (pe_op op_mul (pv 1) pe_int) (pe_op op_mod (pe_callTy call_int1 (by rfl) gI (by decide +kernel) (pa_cons (pv 2) pa_nil)) pe_int)) pe_int) pa_nil)) pe_int))))
      (pss_one (ps_ret (pe_lst (pa_cons (pe_callTy call_list_of (by rfl) gL (by decide +kernel) (pa_cons (pe_slice sl_list (pv 0) po_none (po_some pe_int)) pa_nil)) (pa_cons pe_int (pa_cons pe_int (pa_cons (pv 1) pa_nil))))))))), ?_⟩
    obtain ⟨ms, hms, hmsl⟩ := cut_map ns none (some 63)
    refine ⟨_, rfl, _, rfl, a, _, rfl, hS, fun c hc => ?_⟩
    have hSc : SqL K (upd H c (.lst (cutV (ns.map V.int) none (some 63)))) c (ms.map V.int) := by rw [hms]; exact SqL.of upd_same
    refine ⟨c, rfl, ⟨_, hSc⟩, for_list (K := K) (a := c) (xs := ms.map V.int) (fun _ σ' H' => ∃ (z : Int) (u : Option V), σ' = [some (.ref a), some (.int z), u] ∧ 0 ≤ z ∧ z < 2147483579 ∧ H' = upd H c (.lst (cutV (ns.map V.int) none (some 63))))
      ⟨5606, none, rfl, by decide, by decide, rfl⟩ (fun i σ' H' _ ⟨_, _, _, _, _, e⟩ => by rw [e]; exact hSc) ?_ ?_⟩
    · rintro i y σ' H' hi ⟨z, u, rfl, z0, z1, rfl⟩
      obtain ⟨x, rfl⟩ : ∃ x, y = V.int x := by
        rw [List.getElem?_map] at hi
        cases e : ms[i]? with
        | none => rw [e] at hi; cases hi
        | some x => rw [e] at hi; exact ⟨x, (Option.some.inj hi).symm⟩
      refine ⟨_, rfl, _, _, rfl, rfl, .inl ⟨by omega, by omega⟩, _, rfl, .inl ⟨_, rfl, _, _, rfl, rfl, (by show (0 : Int) < 2147483399; decide), _, _, rfl, rfl, _, _, rfl, rfl, .inl ⟨_, rfl, _, _, rfl, rfl, (by show (0 : Int) < 2147483579; decide), ?_⟩⟩⟩
      exact ⟨_, _, rfl, Int.emod_nonneg _ (by decide), Int.emod_lt_of_pos _ (by decide), rfl⟩
    · rintro σ' H' ⟨z, u, rfl, z0, z1, rfl⟩
      refine ⟨_, rfl, _, rfl, a, _, rfl, ex_l (Ex.new hc) hS, fun d hd => ?_⟩
      refine ⟨d, _, rfl, .inl (SqL.of upd_same), fun l hl => ⟨_, rfl, (by show 4 ≤ sizeLine; decide), fun b hb => ?_⟩⟩
      have e1 : Ex H (upd H c (.lst (cutV (ns.map V.int) none (some 63)))) := Ex.new hc
      have e2 := e1.trans (Ex.new (o := .lst (cutV (ns.map V.int) none (some 63))) hd)
      have e3 := e2.trans (Ex.new (o := .lst (cutV (ns.map V.int) none (some 63))) hl)
      have e4 := e3.trans (Ex.new (o := .lst [.ref l, .int 0, .int 0, .int z]) hb)
      have nbl : b ≠ l := fun q => by rw [q, upd_same] at hb; cases hb
      refine k b l ms _ e4 (fresh_back e3 hb) (fresh_back e2 hl) ⟨nbl, by rw [upd_ne nbl.symm, upd_same, hms], by omega, 0, 0, z, upd_same, Int.le_refl 0, Int.le_refl 0, z0, z1⟩
end
end K03

/-! An own exception class made with keywords: __new__ lets them pass, __init__ takes them. -/
namespace OxK
open PySem PySem.W PySem.Calls PyProof.Rows PySem.HandSPX
section
variable {M : Model} {A : Around} {E : Value → Shared → Prop} {hp : Heap} {gs : Array GenState} {dr : Drawn} {tk : Nat} {os : OsState}
variable {n1 n2 : Str} {C N : Addr} {bs mr mrB : List Value} {hdc : Bool} {sl : List Str} {sub : List Value} {ab : Bool} {co : Option Bool} {dd : Option Addr} {z0 z1 z2 z3 z5 : Option Value} {B idN idI : String}
theorem kwCheck (FB : ExcBaseFacts B idN idI mrB) (hT : ∀ T : String, mr.contains (.type T) = mrB.contains (.type T)) {us : List Value} {kw : List (Str × Value)} {Q : Unit → Shared → Prop}
    (oC : hp.get? C = some (excClassObj n1 n2 C N bs mr hdc sl sub ab co dd z0 z1 z2 z3 z5 idN)) (q : Q () ⟨hp, gs, dr, tk, os⟩) :
    wpAny M A (checkBuiltinCall idN ⟨.ref C :: us, kw⟩) Q E ⟨hp, gs, dr, tk, os⟩ := by
  have inB : (Value.ref C :: mr).contains (.type B) = true := by
    rw [List.contains_cons, hT]
    rw [FB.hasB, Bool.or_true]
  have star := FB.noStar
  simp only [checkBuiltinCall, FB.newKind, FB.newSplit, FB.newRow]
  repeat (first
    | refine wpAny_loadPart_at oC ?_
    | (refine wpAny_isSubtype_exc oC ?_
       rw [inB])
    | refine wpAny_staticBase_exc oC ?_
    | refine wpAny_madeBy_exc oC ?_
    | simp only [bne_self_eq_false, Bool.false_eq_true, if_false]
    | wp_step)
  exact q
end
section
variable {prog : Program} {w : World} {A : Around} {E : Value → Shared → Prop} {R : Result → Shared → Prop} {hp : Heap} {gs : Array GenState} {dr : Drawn} {tk : Nat} {os : OsState}
variable {n1 n2 : Str} {C N : Addr} {bs mr mrB : List Value} {hdc : Bool} {sl : List Str} {sub : List Value} {ab : Bool} {co : Option Bool} {dd : Option Addr} {z0 z1 z2 z3 z5 : Option Value} {B idN idI : String}
theorem kwNew (FB : ExcBaseFacts B idN idI mrB) (hT : ∀ T : String, mr.contains (.type T) = mrB.contains (.type T)) {us : List Value} {kw : List (Str × Value)}
    (oC : hp.get? C = some (excClassObj n1 n2 C N bs mr hdc sl sub ab co dd z0 z1 z2 z3 z5 idN)) (lu : us.length ≤ sizeLine)
    (q : R (.ok (.ret (.ref (hp.objs.size + 1)))) ⟨(hp.push (W.kdv_tup us)).push (excO C hp.objs.size), gs, dr, tk, os⟩) :
    codeAny (model prog w) A (.builtin idN ⟨.ref C :: us, kw⟩) R ⟨hp, gs, dr, tk, os⟩ := by
  have fin := FB.ends
  have has : ∀ (T : String) (v : Bool), mrB.contains (.type T) = v → (Value.ref C :: mr).contains (.type T) = v := fun T v e => by
    rw [List.contains_cons, hT, e]
    rfl
  have inB := has _ _ FB.hasB
  have notA := has _ _ FB.noAttr
  have notN := has _ _ FB.noName
  refine codeAny_builtinAt FB.entry ?_
  unfold Builtin.«BaseException.__new__»
  refine PySem.wpAt_bind ?_
  show PySem.wpAt _ _ _ (stack >>= _) _ _ _
  refine PySem.wpAt_bind (PySem.wpAt_stack fun p below => PySem.wpAt_of_wpAny ?_)
  wp_walk
  refine PySem.wpAt_of_wpAny ?_
  rw [FB.owner]
  repeat (first
    | with_reducible refine wpAny_madeHere_exc FB.canon oC ?_
    | with_reducible refine wpAny_loadPart_at oC ?_
    | (with_reducible refine wpAny_isSubtype_exc oC ?_
       first | rw [inB] | rw [notA] | rw [notN])
    | wp_step)
  show R _ _
  rw [Heap.size_push]
  exact q
theorem kwTypeCall (FB : ExcBaseFacts B idN idI mrB) (hT : ∀ T : String, mr.contains (.type T) = mrB.contains (.type T)) {us : List Value} {kw : List (Str × Value)} {fI : Addr} {Q : Fin → Shared → Prop}
    (oC : hp.get? C = some (excClassObj n1 n2 C N bs mr hdc sl sub ab co dd z0 z1 z2 z3 z5 idN))
    (li : W.Looks (model prog w) hp (typeLookup (.ref C) "__init__") (some (.ref fI))) (bi : ∀ self, W.Looks (model prog w) hp (bindSpecial (.ref fI) self) (.ref fI, [self])) (lu : us.length ≤ sizeLine)
    (q : codeAny (model prog w) A (.call (.ref fI) ⟨.ref (hp.objs.size + 1) :: us, kw⟩)
      (fun r s' => match r with
        | .ok (.ret v) => v = .none ∧ Q (.done (.ret (.ref (hp.objs.size + 1)))) s'
        | .ok _ => False
        | .error x => E x s') ⟨(hp.push (W.kdv_tup us)).push (excO C hp.objs.size), gs, dr, tk, os⟩) :
    wpAny (model prog w) A (Builtin.«type.__call__» ⟨.ref C :: us, kw⟩) Q E ⟨hp, gs, dr, tk, os⟩ := by
  repeat (first
    | with_reducible refine wpAny_loadPart_at oC ?_
    | with_reducible refine wpAny_madeBy_exc oC ?_
    | wp_step)
  refine codeAny_call_builtin_code (Code.quiet_builtin _ FB.quiet) (kwCheck FB hT oC ?_)
  refine kwNew FB hT oC lu ?_
  show wpAny _ _ _ _ _ _
  have up : ∀ b o, hp.get? b = some o → ((hp.push (W.kdv_tup us)).push (excO C hp.objs.size)).get? b = some o :=
    fun b o e => Heap.get?_push_of_some _ (Heap.get?_push_of_some _ e)
  have oC2 := up _ _ oC
  have oe : ((hp.push (W.kdv_tup us)).push (excO C hp.objs.size)).get? (hp.objs.size + 1) = some (excO C hp.objs.size) := by
    heap_get
  have inC : (Value.ref C :: mr).contains (.ref C) = true := by simp
  have li2 := li.keeps up
  have bi2 := (bi (.ref (hp.objs.size + 1))).keeps up
  unfold isInstance
  repeat (first
    | with_reducible refine wpAny_loadPart_at oe ?_
    | (with_reducible refine wpAny_isSubtype_exc oC2 ?_
       rw [inC])
    | wp_step)
  show wpAny _ _ (typeLookup (.ref C) _) _ _ _
  refine li2.at ?_
  refine wpAny_holding (wpAny_bind (bi2.at ?_))
  refine wpAny_bind (wpAny_call (codeAny_mono q fun r s' y => ?_))
  rcases r with x | (v | _ | _ | _) <;> first | exact y | exact y.elim | skip
  obtain ⟨rfl, y⟩ := y
  first
    | exact wpAny_pure (wpAny_pure y)
    | (wp_walk; exact y)
theorem kwCheckT {M : Model} {us : List Value} {kw : List (Str × Value)} {Q : Unit → Shared → Prop} (oC : hp.get? C = some (excClassObj n1 n2 C N bs mr hdc sl sub ab co dd z0 z1 z2 z3 z5 idN))
    (q : Q () ⟨hp, gs, dr, tk, os⟩) : wpAny M A (checkBuiltinCall "type.__call__" ⟨.ref C :: us, kw⟩) Q E ⟨hp, gs, dr, tk, os⟩ := by
  have so := tc_sub
  have ty : (⟨hp, gs, dr, tk, os⟩ : Shared).TypeIs (.ref C) "type" := ⟨_, oC, rfl⟩
  simp only [checkBuiltinCall, tc_kind, tc_split]
  repeat (any_goals (first
    | assumption
    | with_reducible refine wpAny_loadPart_at oC ?_
    | with_reducible refine wpAny_onRaise ?_
    | with_reducible refine wpAny_map ?_
    | wp_step))
theorem kwOwn (FB : ExcBaseFacts B idN idI mrB) (hT : ∀ T : String, mr.contains (.type T) = mrB.contains (.type T)) {us : List Value} {kw : List (Str × Value)} {fI : Addr}
    (oC : hp.get? C = some (excClassObj n1 n2 C N bs mr hdc sl sub ab co dd z0 z1 z2 z3 z5 idN))
    (li : W.Looks (model prog w) hp (typeLookup (.ref C) "__init__") (some (.ref fI))) (bi : ∀ self, W.Looks (model prog w) hp (bindSpecial (.ref fI) self) (.ref fI, [self])) (lu : us.length ≤ sizeLine)
    (q : codeAny (model prog w) (A.under (.builtin "type.__call__" ⟨.ref C :: us, kw⟩)) (.call (.ref fI) ⟨.ref (hp.objs.size + 1) :: us, kw⟩) (W.InitBack (hp.objs.size + 1) R)
      ⟨(hp.push (W.kdv_tup us)).push (excO C hp.objs.size), gs, dr, tk, os⟩) :
    codeAny (model prog w) A (.call (.ref C) ⟨us, kw⟩) R ⟨hp, gs, dr, tk, os⟩ := by
  have lo := tc_lookup
  have bo := tc_bind (.ref C)
  have ty : (⟨hp, gs, dr, tk, os⟩ : Shared).TypeIs (.ref C) "type" := ⟨_, oC, rfl⟩
  refine codeAny_of_tree ?_
  show wpAny _ _ (callAny (.ref C) _) _ _ _
  repeat (any_goals (first
    | assumption
    | with_reducible refine wpAny_loadPart_at oC ?_
    | wp_step))
  refine ⟨rfl, ?_⟩
  refine codeAny_call_builtin_at (Code.quiet_builtin _ (by decide +kernel)) entry_typeCall (kwCheckT oC (kwTypeCall FB hT oC li bi lu ?_))
  refine codeAny_mono q fun r s' y => ?_
  rcases r with x | (v | _ | _ | _) <;> exact y
end
end OxK

/-! Own exceptions as values that are kept: what their class says, a store into one. -/
namespace OxK
open PySem PySem.W PySem.Calls PyProof.Rows PySem.HandSPX Builtin Builtin.ObjectAttr
/-- what the written part says of an own exception's class, whatever built-in class stands below -/
structure ExC (K : Frag) (C : Addr) : Prop where
  base : ∃ (B idN idI : String) (mrB : List Value), ExcBaseFacts B idN idI mrB ∧ StoreFacts B mrB "object.__setattr__" "object" ∧ excInitIn K C mrB idN = true ∧ excOver K C mrB = true
  hasD : hasDictIn K C = true
  sa : findIn K (.ref C) "__setattr__" = some (some (.builtin "object.__setattr__"))
  ga : findIn K (.ref C) "__getattribute__" = some (some (.builtin "BaseException.__getattribute__"))
  gg : findIn K (.ref C) "__getattr__" = some none
  exC : subIn K (.ref C) (.type "BaseException") = some true
  tyC : typeIn K (.ref C) = some (.type "type")
  kC : keepIn K (.ref C) = true
section
variable {prog : Program} {w : World} {A : Around} {E : Value → Shared → Prop} {R : Result → Shared → Prop} {hp : Heap} {gs : Array GenState} {dr : Drawn} {tk : Nat} {os : OsState} {K : Frag} {x C : Addr} {nm : Str} {t : Tok} {v : Value} {fv : Array Value}
theorem takes_none (no : findIn K (.ref C) nm = some none) : takerIn K C nm = some none := by
  unfold takerIn
  rw [no]
  rfl
theorem dict_of {cd : ClassData} (hc : clsIn K C = some cd) (T : hasDictIn K C = true) : cd.hasDict = true := by
  unfold hasDictIn at T
  rw [hc] at T
  simpa using T
/-- the first field: a dict of its own is laid -/
theorem put_first (T : ExC K C) (X : K.In hp) (ox : hp.get? x = some { cls := .ref C, data := .fields fv }) (no : findIn K (.ref C) nm = some none)
    (q : ∀ h' t' dx, (∀ b o, b ≠ x → hp.get? b = some o → h'.get? b = some o) → hp.objs.size ≤ dx → dx ≠ x → h'.get? x = some { cls := .ref C, dict := some dx, data := .fields fv } →
      h'.Ns1 dx (fun y => if y = nm then some v else none) → R (.ok (.ret .none)) ⟨h', gs, dr, t', os⟩) :
    codeAny (model prog w) A (.call (.builtin "object.__setattr__") ⟨[.ref x, .str nm t, v], []⟩) R ⟨hp, gs, dr, tk, os⟩ := by
  obtain ⟨B, idN, idI, mrB, FB, SF, hi, ho⟩ := T.base
  have I : InstAt hp x { cls := .ref C, data := .fields fv } C none := ⟨ox, rfl, rfl, trivial⟩
  refine osa_openX (s := ⟨hp, gs, dr, tk, os⟩) SF X I ho (takes_none no) fun b => ?_
  obtain ⟨cd, hc, _⟩ := any_some ho
  have hd := dict_of hc T.hasD
  have lc : W.Looks (model prog w) hp (classData C) cd := looks_clsIn X hc
  have far : x ≠ hp.objs.size := Nat.ne_of_lt (Heap.lt_size ox)
  obtain ⟨a1, a2, a3, a4, a5, hd', a6, a7, a8, a9, a10⟩ := cd
  dsimp only at hd
  subst hd
  show wpAny _ _ (storeInOwnDict (.ref x) (.ref C) (.str nm t) nm v b) _ _ _
  unfold storeInOwnDict ownDictForStores
  repeat (first
    | with_reducible refine store_in_new ?_ ?_
    | with_reducible refine wpAny_loadPart_at ox ?_
    | with_reducible refine lc.at ?_
    | wp_step)
  · exact ⟨_, #[], _, (Heap.get?_update_ne _ _ _ _ far.symm).trans (Heap.get?_push_at rfl rfl), rfl, fun e z => absurd z (by simp), fun _ => rfl⟩
  · intro h' t' hn sb
    have ox2 : (hp.push { cls := .type "dict", data := .dict #[] }).get? x = some { cls := .ref C, data := .fields fv } := Heap.get?_push_of_some _ ox
    refine q h' t' hp.objs.size (fun b' o nb z => ?_) (Nat.le_refl _) far.symm ?_ hn
    · exact (sb.2 b' (Nat.ne_of_lt (Heap.lt_size z))).trans ((Heap.get?_update_ne _ _ _ _ nb).trans (Heap.get?_push_of_some _ z))
    · exact (sb.2 x far).trans (Heap.get?_update_self _ ox2 rfl)
/-- a further field -/
theorem put_more {dx : Addr} {m0 : Str → Option Value} {nl : List Str} (T : ExC K C) (X : K.In hp) (ox : hp.get? x = some { cls := .ref C, dict := some dx, data := .fields fv }) (hn : hp.Ns1 dx m0) (wi : Within m0 nl) (few : nl.length ≤ 1000) (no : findIn K (.ref C) nm = some none)
    (q : ∀ h' t', (∀ b o, b ≠ dx → hp.get? b = some o → h'.get? b = some o) → h'.Ns1 dx (fun y => if y = nm then some v else m0 y) → R (.ok (.ret .none)) ⟨h', gs, dr, t', os⟩) :
    codeAny (model prog w) A (.call (.builtin "object.__setattr__") ⟨[.ref x, .str nm t, v], []⟩) R ⟨hp, gs, dr, tk, os⟩ := by
  obtain ⟨B, idN, idI, mrB, FB, SF, hi, ho⟩ := T.base
  obtain ⟨oD, esD, epD, gD, dD, _⟩ := hn.count wi
  have I : InstAt hp x { cls := .ref C, dict := some dx, data := .fields fv } C (some oD) := ⟨ox, rfl, rfl, gD⟩
  refine osa_openX (s := ⟨hp, gs, dr, tk, os⟩) SF X I ho (takes_none no) fun b => ?_
  obtain ⟨cd, hc, _⟩ := any_some ho
  have hd := dict_of hc T.hasD
  have lc : W.Looks (model prog w) hp (classData C) cd := looks_clsIn X hc
  obtain ⟨a1, a2, a3, a4, a5, hd', a6, a7, a8, a9, a10⟩ := cd
  dsimp only at hd
  subst hd
  show wpAny _ _ (storeInOwnDict (.ref x) (.ref C) (.str nm t) nm v b) _ _ _
  unfold storeInOwnDict ownDictForStores
  repeat (first
    | with_reducible refine PySem.OEX.store_in_old hn wi few ?_
    | with_reducible refine wpAny_loadPart_at ox ?_
    | with_reducible refine lc.at ?_
    | wp_step)
  intro h' t' hn' sb
  exact q h' t' (fun b' o nb z => (sb.2 b' nb).trans z) hn'
end
end OxK

/-! The same over the abstract heap: kept exceptions (exo, exd), their making, their fields. -/
namespace L2
open PySem PySem.Spec PyProof.Rows OxK
section
variable {X : Cx} {pins : List (Addr × Obj)} {σ : St} {H : Hp} {s : Shared} {a C dx : Addr} {f : Str} {y : V} {u : Value} {fs : List (Str × V)} {E : Value → Shared → Prop} {A : Around}
theorem xput_first {Q : Unit → Shared → Prop} (T : ExC X.K C) (I : Inv X pins σ H s) (ea : H a = some (exo a C none)) (no : PySem.W.findIn X.K (.ref C) f = some none) (ry : RelV y u)
    (q : ∀ d s', H d = none → d ≠ a → Inv X pins σ (upd (upd H d (exd d [(f, y)])) a (exo a C (some d))) s' → Q () s') :
    wpAny (model X.prog X.w) A (setAttr (.ref a) f u) Q E s := by
  obtain ⟨t1, oa⟩ := exo_at I.hok ea
  obtain ⟨hp, gs, dr, tk, os⟩ := s
  refine PySem.W.set_plain I.kIn (ox := { cls := .ref C, dict := none, data := .fields #[.ref t1, .none, .none, .none, .bool false, .none] }) (od := none) ⟨oa, rfl, rfl, trivial⟩ T.sa ?_
  refine put_first T I.kIn oa no fun h' t' d keep big nda oa' hn => ?_
  have free : H d = none := I.hok.fresh big
  have nd : ∀ {b : Addr} {o : Obj}, hp.get? b = some o → b ≠ d := fun z => Nat.ne_of_lt (Nat.lt_of_lt_of_le (Heap.lt_size z) big)
  have na : ∀ {b : Addr}, H b = none → b ≠ a := fun {b} z e => by
    rw [e, ea] at z
    cases z
  have put : ∀ {b : Addr} {o : HO}, H b = some o → exo a C none ≠ o → upd (upd H d (exd d [(f, y)])) a (exo a C (some d)) b = some o := fun {b o} z k => by
    rw [upd_ne (at_ne ea z k), upd_ne (ne_of_none z free)]
    exact z
  have Y : Un X.fs [] H (upd (upd H d (exd d [(f, y)])) a (exo a C (some d))) hp h' :=
    { keep := fun b o z n _ _ => keep b o (na n) z
      slot := fun b o z n _ _ => ⟨o.slots, keep b o (na n) z⟩
      free := fun b o z n _ => by
        rw [upd_ne (na n), upd_ne (nd z)]
        exact n
      there := fun b o z _ => by
        by_cases e : b = a
        · rw [e]
          exact ⟨_, oa'⟩
        · exact ⟨o, keep b o e z⟩
      tups := fun b xs z => put z exo_tup
      frzs := fun b o v z => put z exo_frz
      tbls := fun b ps z => ⟨#[], by
        rw [put z exo_tbl]
        simp⟩ }
  refine q d _ free nda (I.un (t' := t') Y fun b o z => ?_)
  by_cases e : b = a
  · subst e
    rw [upd_same] at z
    cases z
    exact exo_ok oa'
  · rw [upd_ne e] at z
    by_cases e2 : b = d
    · subst e2
      rw [upd_same] at z
      cases z
      exact exd_ok hn (relO_put (fs := []) ry fun _ => True.intro)
    · rw [upd_ne e2] at z
      refine (I.hok b o z).stay (fun c v hc k => keep c v ?_ k) (fun c hc => put hc exo_own) (fun c xs hc => put hc exo_tup)
      rcases hc with hc | hc
      · rw [hc]
        exact e
      · exact at_ne ea hc exo_own
theorem xput_more {Q : Unit → Shared → Prop} (T : ExC X.K C) (I : Inv X pins σ H s) (ea : H a = some (exo a C (some dx))) (ed : H dx = some (exd dx fs)) (few : fs.length ≤ 900) (no : PySem.W.findIn X.K (.ref C) f = some none) (ry : RelV y u)
    (q : ∀ s', Inv X pins σ (upd H dx (exd dx ((f, y) :: fs))) s' → Q () s') : wpAny (model X.prog X.w) A (setAttr (.ref a) f u) Q E s := by
  obtain ⟨t1, oa⟩ := exo_at I.hok ea
  obtain ⟨mA, hn, rel⟩ := exd_at I.hok ed
  have wi := within_of rel
  obtain ⟨hp, gs, dr, tk, os⟩ := s
  obtain ⟨oD, _, _, gD, _, _⟩ := hn.count wi
  refine PySem.W.set_plain I.kIn (ox := { cls := .ref C, dict := some dx, data := .fields #[.ref t1, .none, .none, .none, .bool false, .none] }) (od := some oD) ⟨oa, rfl, rfl, gD⟩ T.sa ?_
  refine put_more T I.kIn oa hn wi (by rw [List.length_map]; omega) no fun h' t' keep hn' => ?_
  have there : ∃ o, h'.get? dx = some o := by
    obtain ⟨o, _, _, z, _⟩ := hn'
    exact ⟨o, z⟩
  exact q _ (I.write (t' := t') (x := dx) (e := dx) (o := exd dx ((f, y) :: fs)) (by rw [ed]; exact True.intro) (.inl rfl) keep there (exd_ok hn' (relO_put ry rel)))
end
/-- o.f = e, o a kept exception -/
def tXst (K : PySem.W.Frag) (f : Str) (to te : TE) : TS := fun D σ H => te σ H fun y H1 => to σ H1 fun x H2 => ∃ a C : Addr, x = .ref a ∧ ExC K C ∧ PySem.W.findIn K (.ref C) f = some none ∧
  ((H2 a = some (exo a C none) ∧ ∀ d, H2 d = none → d ≠ a → D.nx σ (upd (upd H2 d (exd d [(f, y)])) a (exo a C (some d)))) ∨
    ∃ (d : Addr) (fs : List (Str × V)), H2 a = some (exo a C (some d)) ∧ H2 d = some (exd d fs) ∧ fs.length ≤ 900 ∧ D.nx σ (upd H2 d (exd d ((f, y) :: fs))))
section
variable {X : Cx} {o e : Expr} {es : List Expr} {kws : List Keyword} {to te : TE} {ta tk : TA} {f : Str} {p p' p1 p2 pos : Pos}
theorem ps_xst (ho : PE X o to) (he : PE X e te) (hs : swapsWith e (some (.Attribute o f p')) pos.line X.env = pure false := by rfl) : PS X (.Assign [.Attribute o f p'] e pos) (tXst X.K f to te) :=
  ⟨fun pins s σ H D I h => plainObj_wpAny_Assign_Attribute (thn (he.run pins s σ H _ I h) fun v s1 ⟨y, H1, I1, ry, q1⟩ =>
    thn (ho.run pins s1 σ H1 _ I1 q1) fun u s2 ⟨x, H2, I2, rx, a, C, ex, T, no, q⟩ => by
      subst ex
      cases rx
      rcases q with ⟨ea, q⟩ | ⟨d, fs, ea, ed, few, q⟩
      · exact xput_first T I2 ea no ry fun d s' free ne J => ⟨σ, _, J, q d free ne⟩
      · exact xput_more T I2 ea ed few no ry fun s' J => ⟨σ, _, J, q⟩) hs⟩
/-- o.f, o a kept exception -/
def tXg (K : PySem.W.Frag) (f : Str) (to : TE) : TE := fun σ H Q => to σ H fun x H1 => ∃ (a C d : Addr) (fs : List (Str × V)) (v : V), x = .ref a ∧ ExC K C ∧ PySem.W.findIn K (.ref C) f = some none ∧
  H1 a = some (exo a C (some d)) ∧ H1 d = some (exd d fs) ∧ fs.lookup f = some v ∧ Q v H1
theorem pe_xg (ho : PE X o to) (hb : attributeBase o f X.env (eval o X.env) = eval o X.env := by rfl) : PE X (.Attribute o f pos) (tXg X.K f to) := by
  refine ⟨fun pins s σ H Q I h => ?_⟩
  refine attr_of hb (thn (ho.run pins s σ H _ I h) fun u s1 hh => ?_)
  obtain ⟨x, H1, I1, rx, a, C, d, fs, v, ex, T, no, ea, ed, el, q⟩ := hh
  subst ex
  cases rx
  obtain ⟨t1, oa⟩ := exo_at I1.hok ea
  obtain ⟨mA, hn, rel⟩ := exd_at I1.hok ed
  obtain ⟨od, gD, lD⟩ := lookIn_ns hn
  obtain ⟨u, hu, ru⟩ := RelO.some_of (v := v) (o := mA f) (by rw [← el]; exact rel f)
  have J : PySem.W.InstAt s1.heap a _ C (some od) := ⟨oa, rfl, rfl, gD⟩
  exact HandSPX.exc_get I1.kIn J T.ga T.gg T.exC (PySem.W.findObj_own T.hasD no rfl (by rw [lD f, hu])) (handed_of ru) ⟨v, H1, I1.tok _, ru, q⟩
end
/-- how values and keywords come to the parameters: the keywords behind -/
def XB (K : PySem.W.Frag) (fd : FuncData) (ps : List Str) (n : Nat) (ks : List Str) : Prop :=
  ∀ (s : Shared) (us ws : List Value), K.In s.heap → us.length = n → ws.length = ks.length → BindsTo s fd ⟨us, ks.zip ws⟩ (ps.zip (us ++ ws))
section
variable {X : Cx} {CX : CXT} {k n : Nat} {fI C : Addr} {fd : FuncData} {ps ks : List Str} {sp : Sp} {x : Str} {p pos : Pos} {e : Expr} {es : List Expr} {kws : List Keyword} {t tk : TA}
theorem run_xnew {pins : List (Addr × Obj)} {σ : St} {H : Hp} {s : Shared} {Q : VK} {us ws : List Value} {vs zs : List V} (T : ExC X.K C) (iC : PySem.W.findIn X.K (.ref C) "__init__" = some (some (.ref fI)))
    (tI : PySem.W.typeIn X.K (.ref fI) = some (.type "function")) (F : FnOk X.prog X.w X.K X.mg X.base CX k fI fd ps sp) (hr : Room (k + 1) X.A) (hb : XB X.K fd ps (n + 1) ks) (hx : Passes CX X E0)
    (I : Inv X pins σ H s) (r : Vals vs us) (rz : Vals zs ws) (l1 : vs.length = n) (l2 : zs.length = ks.length) (l3 : n ≤ 1000)
    (h : ∀ a, H a = none → sp (.ref a :: (vs ++ zs)) (upd H a (exo a C none)) (fun v H2 => v = .non ∧ Q (.ref a) H2) E0) :
    wpAny (model X.prog X.w) X.A (call (.ref C) us (ks.zip ws)) (EP X pins σ Q) X.xe s := by
  obtain ⟨B, idN, idI, mrB, FB, SF, hi, ho⟩ := T.base
  obtain ⟨hp, gs, dr, tk', os⟩ := s
  obtain ⟨nm, N, qn, bs, bm, hdct, sn, sub, ab, col, dd, k0, k1, k2, k3, k5, oC, hT⟩ := PySem.W.excInit_of I.kIn hi
  have big : hp.objs.size ≤ hp.objs.size + 1 := Nat.le_succ _
  have free : H (hp.objs.size + 1) = none := I.hok.fresh big
  have hq := h (hp.objs.size + 1) free
  have up : ∀ b o, hp.get? b = some o → ((hp.push (PySem.W.kdv_tup us)).push (HandSPX.excO C hp.objs.size)).get? b = some o := fun b o z => Heap.get?_push_of_some _ (Heap.get?_push_of_some _ z)
  have oe : ((hp.push (PySem.W.kdv_tup us)).push (HandSPX.excO C hp.objs.size)).get? (hp.objs.size + 1) = some (HandSPX.excO C hp.objs.size) := by heap_get
  have I2 : Inv X pins σ (upd H (hp.objs.size + 1) (exo (hp.objs.size + 1) C none)) ⟨(hp.push (PySem.W.kdv_tup us)).push (HandSPX.excO C hp.objs.size), gs, dr, tk', os⟩ :=
    I.laid (t' := tk') up big (exo_ok oe)
  have r2 : Vals (V.ref (hp.objs.size + 1) :: (vs ++ zs)) ((Value.ref (hp.objs.size + 1) :: us) ++ ws) := .cons rfl (r.append rz)
  have e1 : us.length = n := r.length.symm.trans l1
  have e2 : ws.length = ks.length := rz.length.symm.trans l2
  have few : us.length ≤ sizeLine := by
    rw [e1, sizeLine_eq]
    omega
  refine wpAny_call (kwOwn FB hT oC (PySem.W.looks_findIn I.kIn iC) (fun self => PySem.W.bind_fn I.kIn self tI) few
    (codeAny_mono (F.run _ X.stack _ _ ⟨Value.ref (hp.objs.size + 1) :: us, ks.zip ws⟩ ((Value.ref (hp.objs.size + 1) :: us) ++ ws) _ _ E0 (hr.make C us (ks.zip ws)) (I2.env0.make C us (ks.zip ws))
      (hb _ (Value.ref (hp.objs.size + 1) :: us) ws I2.kIn (by rw [List.length_cons, e1]) e2) r2 hq) fun r s' hq' => ?_))
  cases r with
  | error er => exact hx pins σ _ _ er s' I2 hq'
  | ok fl =>
    cases fl with
    | ret u =>
      obtain ⟨v, H', I3, rv, ev, q3⟩ := I2.after hq'
      subst ev
      exact ⟨rv, ⟨V.ref (hp.objs.size + 1), H', I3, rfl, q3⟩⟩
    | next => exact False.elim hq'
    | brk => exact False.elim hq'
    | cont => exact False.elim hq'
/-- a kept exception is made: n values, the keywords' behind them -/
def tXnew (C : Addr) (n m : Nat) (sp : Sp) (t tk : TA) : TE := fun σ H Q => t σ H fun vs H1 => tk σ H1 fun zs H2 => vs.length = n ∧ zs.length = m ∧
  ∀ a, H2 a = none → sp (.ref a :: (vs ++ zs)) (upd H2 a (exo a C none)) (fun v H3 => v = .non ∧ Q (.ref a) H3) E0
theorem pe_x1 (T : ExC X.K C) (iC : PySem.W.findIn X.K (.ref C) "__init__" = some (some (.ref fI))) (tI : PySem.W.typeIn X.K (.ref fI) = some (.type "function")) (F : FnOk X.prog X.w X.K X.mg X.base CX k fI fd ps sp) (hr : Room (k + 1) X.A)
    (hb : XB X.K fd ps (n + 1) []) (hx : Passes CX X E0) (hg : Gl X x) (hm : X.mg x = some (.ref C)) (l3 : n ≤ 1000) (ha : PA X (e :: es) t) (hdb : (x == ("__debug__" : Str)) = false := by decide)
    (he : starEach (e :: es) X.env = (false, eval e X.env) :: starEach es X.env := by rfl) (hpl : (backTo pos (starEach es X.env)).any (·.1) = false := by rfl) :
    PE X (.Call (.Name x p) (e :: es) [] pos) (tXnew C n 0 sp t tNil) := by
  refine ⟨fun pins s σ H Q I h => wpAny_Call_Name_kw (ld_glob I hg hm ?_ hdb)⟩
  refine PySem.W.callWith_K (h₀ := X.base) I.ok.mod.kin T.kC (thn (ha.run pos pins s σ H _ I h) fun us s1 ⟨vs, H1, I1, r, l1, _, q⟩ => ⟨I1.kIn, ?_⟩) he hpl
  exact run_xnew (ks := []) (ws := []) (zs := []) T iC tI F hr hb hx I1 r .nil l1 rfl l3 q
theorem pe_x0 (T : ExC X.K C) (iC : PySem.W.findIn X.K (.ref C) "__init__" = some (some (.ref fI))) (tI : PySem.W.typeIn X.K (.ref fI) = some (.type "function")) (F : FnOk X.prog X.w X.K X.mg X.base CX k fI fd ps sp) (hr : Room (k + 1) X.A)
    (hb : XB X.K fd ps 1 []) (hx : Passes CX X E0) (hg : Gl X x) (hm : X.mg x = some (.ref C)) (hdb : (x == ("__debug__" : Str)) = false := by decide) :
    PE X (.Call (.Name x p) [] [] pos) (tXnew C 0 0 sp tNil tNil) := by
  refine ⟨fun pins s σ H Q I h => wpAny_Call_Name_kw (ld_glob I hg hm ?_ hdb)⟩
  obtain ⟨l1, l2, q⟩ := h
  exact PySem.W.callWith_K0 I.kIn T.kC (run_xnew (n := 0) (us := []) (ks := []) (ws := []) (vs := []) (zs := []) T iC tI F hr hb hx I .nil .nil l1 l2 (Nat.zero_le _) q)
theorem pe_xk (T : ExC X.K C) (iC : PySem.W.findIn X.K (.ref C) "__init__" = some (some (.ref fI))) (tI : PySem.W.typeIn X.K (.ref fI) = some (.type "function")) (F : FnOk X.prog X.w X.K X.mg X.base CX k fI fd ps sp) (hr : Room (k + 1) X.A)
    (hb : XB X.K fd ps 1 ks) (hx : Passes CX X E0) (hg : Gl X x) (hm : X.mg x = some (.ref C)) (hkw : PK X kws tk) (hall : (backToKw pos (keywordEach kws X.env)).all (·.1.isSome) = true := by rfl)
    (hks : (backToKw pos (keywordEach kws X.env)).filterMap (·.1) = ks := by rfl) (hdb : (x == ("__debug__" : Str)) = false := by decide)
    (hpl : ((backTo pos (starEach [] X.env)).any (·.1) || (backToKw pos (keywordEach kws X.env)).any (·.1.isNone)) = false := by rfl) :
    PE X (.Call (.Name x p) [] kws pos) (tXnew C 0 ks.length sp tNil tk) := by
  refine ⟨fun pins s σ H Q I h => wpAny_Call_Name_kw (ld_glob I hg hm ?_ hdb)⟩
  refine PySem.W.callWith_KW0 (h₀ := X.base) I.ok.mod.kin T.kC hall (thn (hkw.run pos pins s σ H _ I h) fun ws s1 ⟨zs, H1, I1, r, l1, l2, q⟩ => ⟨I1.kIn, ?_⟩) hpl
  rw [hks]
  exact run_xnew (n := 0) (us := []) (vs := []) T iC tI F hr hb hx I1 .nil r l1 l2 (Nat.zero_le _) q
end
/-! ### isinstance of a kept exception -/
structure IsC (K : PySem.W.Frag) (D : Addr) : Prop where
  cl : (PySem.W.clsIn K D).isSome = true
  ha : PySem.W.findIn K (.ref D) "__class__" = some (some (.builtin "object.__class__"))
  hn : PySem.W.specialIn K (.builtin "object.__class__") "__get__" = some (some (.builtin "getset_descriptor.__get__"))
  ht : PySem.W.takesIn K (.builtin "object.__class__") = some true
  hm : PySem.W.mroIn K D (.type "object") = some true
def rIsX (K : PySem.W.Frag) : List V → Hp → VK → Prop := fun xs H Q => ∃ (a D d : Addr) (fs : List (Str × V)) (c : V) (u : Value) (b : Bool), xs = [.ref a, c] ∧ ExC K D ∧ IsC K D ∧ H a = some (exo a D (some d)) ∧ H d = some (exd d fs) ∧
  ClsV c u ∧ PySem.W.kitOne K (.ref D) u = some b ∧ Q (.bl b) H
theorem call_isX {X : Cx} : CallR X (.builtin "isinstance") (rIsX X.K) := by
  intro pins s σ H xs us Q I r h
  obtain ⟨a, D, d, fs, c, u, b, rfl, T, S, ea, ed, kc, e, q⟩ := h
  obtain ⟨v1, v2, rfl, r1, r2⟩ := vals2 r
  cases r1
  have ec := kc.eq r2
  subst ec
  obtain ⟨t1, oa⟩ := exo_at I.hok ea
  obtain ⟨mA, hn, rel⟩ := exd_at I.hok ed
  obtain ⟨od, gD, lD⟩ := lookIn_ns hn
  have J : PySem.W.InstAt s.heap a _ D (some od) := ⟨oa, rfl, rfl, gD⟩
  exact PySem.W.kia_one (PySem.W.kitx_exc S.cl T.ga T.gg T.exC S.ha S.hn S.ht S.hm) I.kIn J e (fun z => nomatch z) fun tk => ⟨.bl b, H, I.tok _, rfl, q⟩
end L2

/-! copied: a flat value is itself, a tuple is laid anew -/
namespace K03
open PySem L2 Evl
/-- None, a bool, a number, a text -/
def Flat : V → Prop
  | .non => True
  | .bl _ => True
  | .int _ => True
  | .str _ => True
  | _ => False
def tyF : V → String
  | .non => "NoneType"
  | .bl _ => "bool"
  | .int _ => "int"
  | .str _ => "str"
  | _ => ""
section
variable {K : PySem.W.Frag} {H : Hp} {v : V}
theorem flat_ty (h : Flat v) : TyX K H v (.type (tyF v)) := by
  cases v <;> first | exact h.elim | skip
  · exact .base .non
  · exact .base (.bl _)
  · exact .base (.int _)
  · exact .base (.str _)
theorem flat_kit (h : Flat v) (T : String) (b : Bool) (h1 : kitB "NoneType" T = some b) (h2 : kitB "bool" T = some b) (h3 : kitB "int" T = some b) (h4 : kitB "str" T = some b) : PySem.W.kitOne K (.type (tyF v)) (.type T) = some b :=
  match v, h with
  | .non, _ => kit_ty h1
  | .bl _, _ => kit_ty h2
  | .int _, _ => kit_ty h3
  | .str _, _ => kit_ty h4
theorem flat_list (h : Flat v) : PySem.W.kitOne K (.type (tyF v)) (.type "list") = some false := flat_kit h "list" false (by decide +kernel) (by decide +kernel) (by decide +kernel) (by decide +kernel)
theorem flat_tuple (h : Flat v) : PySem.W.kitOne K (.type (tyF v)) (.type "tuple") = some false := flat_kit h "tuple" false (by decide +kernel) (by decide +kernel) (by decide +kernel) (by decide +kernel)
theorem flat_dict (h : Flat v) : PySem.W.kitOne K (.type (tyF v)) (.type "dict") = some false := flat_kit h "dict" false (by decide +kernel) (by decide +kernel) (by decide +kernel) (by decide +kernel)
theorem tup_list : PySem.W.kitOne K (.type "tuple") (.type "list") = some false := kit_ty (by decide +kernel)
theorem tup_tuple : PySem.W.kitOne K (.type "tuple") (.type "tuple") = some true := kit_ty (by decide +kernel)
theorem lst_list : PySem.W.kitOne K (.type "list") (.type "list") = some true := kit_ty (by decide +kernel)
theorem lst_tuple : PySem.W.kitOne K (.type "list") (.type "tuple") = some false := kit_ty (by decide +kernel)
end
theorem tt_yes {σ : L2.St} {H : Hp} {A B : Hp → Prop} (h : A H) : tYes σ H fun b H3 => if b = true then A H3 else B H3 := by
  show (if true = true then A H else B H)
  rw [if_pos rfl]
  exact h
/-- copied of a flat value, of a tuple of flat ones -/
def spCpF : Sp := fun vs H Q _ => ∃ v, vs = [v] ∧ Flat v ∧ Q v H
def spCpT : Sp := fun vs H Q _ => ∃ (a : Addr) (xs : List V), vs = [.ref a] ∧ H a = some (.tup xs) ∧ (∀ x ∈ xs, Flat x) ∧ xs.length ≤ 1000 ∧ ∀ (b : Addr) (H' : Hp), H b = none → Ex H H' → H' b = some (.tup xs) → Q (.ref b) H'
section
variable {P : Program} {w : World} {K : PySem.W.Frag} {mg : Str → Option Value} {base : Heap} {f : Addr} {fd : FuncData}
structure NoB (mg : Str → Option Value) : Prop where
  isi : mg "isinstance" = none
  lst : mg "list" = none
  tup : mg "tuple" = none
theorem scC : FnScope ["value", "item", "key"] ["value"] (defScope sCop) := ⟨rfl, rfl, rfl, by decide +kernel, rfl, by decide +kernel, by decide +kernel⟩
theorem ok_cpF (F : FnP K "copied" sCop f fd) (T : NoB mg) (nd : mg "dict" = none) : FnOk P w K mg base CX0 1 f fd ["value"] spCpF := by
  refine F.ok scC (fun vs H Q E h => ?_) (fun cdv A outer s H vs Q E hr h => ?_)
  · obtain ⟨v, rfl, _⟩ := h
    rfl
  · obtain ⟨v, rfl, fl, k⟩ := h
    refine ⟨_, PSs.nox (pss_cons (ps_if (pt_val (pe_callB call_isi (by rfl) T.isi PyProof.Rows.boot_isinstance (pa_cons (pv 0) (pa_cons (pe_bltn (v := .ty "list") (by rfl) T.lst PyProof.Rows.boot_list rfl) pa_nil)))) (pss_one ps_never) pss_nil)
      (pss_cons (ps_if (pt_val (pe_callB call_isi (by rfl) T.isi PyProof.Rows.boot_isinstance (pa_cons (pv 0) (pa_cons (pe_bltn (v := .ty "tuple") (by rfl) T.tup PyProof.Rows.boot_tuple rfl) pa_nil)))) (pss_one ps_never) pss_nil)
      (pss_cons (ps_if (pt_val (pe_callB call_isi (by rfl) T.isi PyProof.Rows.boot_isinstance (pa_cons (pv 0) (pa_cons (pe_bltn (v := .ty "dict") (by rfl) nd (by decide +kernel) rfl) pa_nil)))) (pss_one ps_never) pss_nil)
      (pss_one (ps_ret (pv 0)))))), ?_⟩
    refine ⟨_, rfl, v, .ty "list", _, _, false, rfl, .ty "list", flat_ty fl, flat_list fl, false, rfl, iteF ?_⟩
    refine ⟨_, rfl, v, .ty "tuple", _, _, false, rfl, .ty "tuple", flat_ty fl, flat_tuple fl, false, rfl, iteF ?_⟩
    refine ⟨_, rfl, v, .ty "dict", _, _, false, rfl, .ty "dict", flat_ty fl, flat_dict fl, false, rfl, iteF ?_⟩
    exact ⟨_, rfl, k⟩
theorem ok_cpT (F : FnP K "copied" sCop f fd) (T : NoB mg) (nd : mg "dict" = none) (gC : mg "copied" = some (.ref f)) : FnOk P w K mg base CX0 2 f fd ["value"] spCpT := by
  have G1 : FnOk P w K mg base CX0 1 f fd ["value"] spCpF := ok_cpF F T nd
  have b1 : Binds K fd ["value"] [] := F.bindsN fun _ _ _ _ _ _ us hl => match us, hl with | [_], _ => rfl
  refine F.ok scC (fun vs H Q E h => ?_) (fun cdv A outer s H vs Q E hr h => ?_)
  · obtain ⟨a, xs, rfl, _⟩ := h
    rfl
  · obtain ⟨a, xs, rfl, ha, fl, few, k⟩ := h
    refine ⟨_, PSs.nox (pss_cons (ps_if (pt_val (pe_callB call_isi (by rfl) T.isi PyProof.Rows.boot_isinstance (pa_cons (pv 0) (pa_cons (pe_bltn (v := .ty "list") (by rfl) T.lst PyProof.Rows.boot_list rfl) pa_nil)))) (pss_one ps_never) pss_nil)
      (pss_cons (ps_if (pt_val (pe_callB call_isi (by rfl) T.isi PyProof.Rows.boot_isinstance (pa_cons (pv 0) (pa_cons (pe_bltn (v := .ty "tuple") (by rfl) T.tup PyProof.Rows.boot_tuple rfl) pa_nil))))
        (pss_one (ps_ret (pe_callTy call_tuple_of (by rfl) T.tup PyProof.Rows.boot_tuple (pa_cons (pe_lc (own := [("item", 1)]) (g := gName 1) (by rfl) scC.nd (pi_tup (pv 0)) (blkOk_by (own := [("item", 1)]) (N := ["value", "item", "key"]) (sc := defScope sCop) (by decide +kernel))
          (fun _ _ _ _ _ => pg_name (i := 1) scC.nd rfl (Or.inl rfl)) (fun _ _ _ _ _ => pts_nil)
          (fun _ _ _ _ _ => pe_call G1 (hr.mono (by decide)) rfl gC F.kp b1 .nil pass0 (pa_cons (pv 1) pa_nil))) pa_nil)))) pss_nil)
      (pss_cons ps_never (pss_one ps_never)))), ?_⟩
    refine ⟨_, rfl, .ref a, .ty "list", _, _, false, rfl, .ty "list", .base (.tup ha), tup_list, false, rfl, iteF ?_⟩
    refine ⟨_, rfl, .ref a, .ty "tuple", _, _, true, rfl, .ty "tuple", .base (.tup ha), tup_tuple, true, rfl, iteT ?_⟩
    refine ⟨_, rfl, a, rfl, ⟨_, SqT.of ha⟩, fun D hD => lc_tup (K := K) (a := a) (xs := xs) (fun i H' => H' = upd H D (.lst (xs.take i))) rfl ?_ ?_ ?_⟩
    · rintro i H' hi rfl
      exact SqT.of (by rw [upd_ne (ne_of_none ha hD)]; exact ha)
    · rintro i x H' hx rfl
      have fx : Flat x := fl x (List.mem_of_getElem? hx)
      have hi : i < xs.length := (List.getElem?_eq_some_iff.mp hx).1
      refine ⟨rfl, ?_⟩
      refine tt_yes ?_
      refine ⟨_, rfl, x, rfl, fx, xs.take i, upd_same, small1000 (by rw [List.length_take]; omega), ?_⟩
      have e : xs.take (i + 1) = xs.take i ++ [x] := by
        rw [List.take_add_one, hx]
        rfl
      funext c
      rw [e]
      by_cases hc : c = D
      · rw [hc, upd_same, upd_same]
      · rw [upd_ne hc, upd_ne hc, upd_ne hc]
    · rintro H' rfl
      rw [List.take_length]
      refine ⟨D, xs, rfl, .inl ⟨SqL.of upd_same, fun b hb => ?_⟩⟩
      exact k b _ (fresh_back (Ex.new hD) hb) ((Ex.new hD).trans (Ex.new hb)) upd_same
end
end K03

/-! The errors' __init__: a tag, and a copy of what is given -/
namespace K03
open PySem L2 Evl OxK
/-- what may be given -/
def Arg (H : Hp) (v : V) : Prop := Flat v ∨ ∃ (t : Addr) (xs : List V), v = .ref t ∧ H t = some (.tup xs) ∧ (∀ x ∈ xs, Flat x) ∧ xs.length ≤ 1000
/-- v and what copied makes of it -/
def Twin (H : Hp) (v v' : V) : Prop := (Flat v ∧ v' = v) ∨ ∃ (t t' : Addr) (xs : List V), v = .ref t ∧ v' = .ref t' ∧ H t = some (.tup xs) ∧ H t' = some (.tup xs) ∧ (∀ x ∈ xs, Flat x) ∧ xs.length ≤ 1000
theorem Arg.ex {H H' : Hp} {v : V} (h : Arg H v) (e : Ex H H') : Arg H' v := by
  rcases h with h | ⟨t, xs, r, ht, hx, hl⟩
  · exact .inl h
  · exact .inr ⟨t, xs, r, e _ _ ht, hx, hl⟩
theorem Twin.ex {H H' : Hp} {v v' : V} (h : Twin H v v') (e : Ex H H') : Twin H' v v' := by
  rcases h with h | ⟨t, t', xs, r, r', ht, ht', hx, hl⟩
  · exact .inl h
  · exact .inr ⟨t, t', xs, r, r', e _ _ ht, e _ _ ht', hx, hl⟩
/-- an exception of the class at C with these fields, kept at a -/
def Mde (H : Hp) (a C : Addr) (fs : List (Str × V)) : Prop := ∃ d, H a = some (exo a C (some d)) ∧ H d = some (exd d fs)
theorem Mde.ex {H H' : Hp} {a C : Addr} {fs : List (Str × V)} (h : Mde H a C fs) (e : Ex H H') : Mde H' a C fs := by
  obtain ⟨d, h1, h2⟩ := h
  exact ⟨d, e _ _ h1, e _ _ h2⟩
def spCp : Sp := fun vs H Q E => spCpF vs H Q E ∨ spCpT vs H Q E
def spI (C : Addr) (cn pn : Str) : Sp := fun vs H Q _ => ∃ (a : Addr) (v : V) (H0 : Hp), vs = [.ref a, v] ∧ H0 a = none ∧ H = upd H0 a (exo a C none) ∧ Arg H0 v ∧
  ∀ (v' : V) (H' : Hp), Ex H0 H' → Twin H' v v' → Mde H' a C [(pn, v'), ("tag", .str cn)] → Q .non H'
def spI0 (C : Addr) (cn : Str) : Sp := fun vs H Q _ => ∃ (a : Addr) (H0 : Hp), vs = [.ref a] ∧ H0 a = none ∧ H = upd H0 a (exo a C none) ∧
  ∀ (H' : Hp), Ex H0 H' → Mde H' a C [("tag", .str cn)] → Q .non H'
section
variable {P : Program} {w : World} {K : PySem.W.Frag} {mg : Str → Option Value} {base : Heap} {f C : Addr} {fd : FuncData}
theorem ok_cp (F : FnP K "copied" sCop f fd) (T : NoB mg) (nd : mg "dict" = none) (gC : mg "copied" = some (.ref f)) : FnOk P w K mg base CX0 2 f fd ["value"] spCp := by
  have F1 : FnOk P w K mg base CX0 2 f fd ["value"] spCpF := (ok_cpF F T nd).mono (by decide)
  have F2 : FnOk P w K mg base CX0 2 f fd ["value"] spCpT := ok_cpT F T nd gC
  exact ⟨fun vs H Q E h => h.elim (F1.len vs H Q E) (F2.len vs H Q E), fun A outer s H args us vs Q E hr he hb hv h =>
    h.elim (F1.run A outer s H args us vs Q E hr he hb hv) (F2.run A outer s H args us vs Q E hr he hb hv)⟩
def t_init (K : PySem.W.Frag) (cn pn : Str) : TS := tSeq (tXst K "tag" (tVar 0) (tC (.str cn))) (tXst K pn (tVar 0) (tCall spCp [] E0 (tCons (tVar 1) tNil)))
theorem fresh_put {H : Hp} {a : Addr} {o : HO} (h : H a = none) : Ex H (upd H a o) := Ex.new h
theorem pure_init (cn pn : Str) (T : ExC K C) (nT : PySem.W.findIn K (.ref C) "tag" = some none) (nP : PySem.W.findIn K (.ref C) pn = some none) {vs : List V} {H : Hp} {Q : VK} {E : XK} (h : spI C cn pn vs H Q E) :
    t_init K cn pn { nx := fun _ H' => Q .non H', rt := Q } (L2.start ["self", pn] vs) H := by
  obtain ⟨a, v, H0, rfl, ha, rfl, hv, k⟩ := h
  refine ⟨_, rfl, a, C, rfl, T, nT, .inl ⟨upd_same, fun d hd nda => ?_⟩⟩
  have nd0 : H0 d = none := by rw [upd_ne nda] at hd; exact hd
  have e1 : Ex H0 (upd (upd (upd H0 a (exo a C none)) d (exd d [("tag", .str cn)])) a (exo a C (some d))) := fun b o z => by
    have nb : b ≠ a := ne_of_none z ha
    rw [upd_ne nb, upd_ne (ne_of_none z nd0), upd_ne nb]
    exact z
  have ed1 : (upd (upd (upd H0 a (exo a C none)) d (exd d [("tag", .str cn)])) a (exo a C (some d))) d = some (exd d [("tag", .str cn)]) := by rw [upd_ne nda, upd_same]
  refine ⟨_, rfl, ?_⟩
  have fin : ∀ (v' : V) (H1 : Hp), Ex (upd (upd (upd H0 a (exo a C none)) d (exd d [("tag", .str cn)])) a (exo a C (some d))) H1 → Twin H1 v v' →
      tVar 0 (L2.start ["self", pn] [V.ref a, v]) H1 (fun x H2 => ∃ a C : Addr, x = .ref a ∧ ExC K C ∧ PySem.W.findIn K (.ref C) pn = some none ∧
        ((H2 a = some (exo a C none) ∧ ∀ d, H2 d = none → d ≠ a → Q .non (upd (upd H2 d (exd d [(pn, v')])) a (exo a C (some d)))) ∨
          ∃ (d : Addr) (fs : List (Str × V)), H2 a = some (exo a C (some d)) ∧ H2 d = some (exd d fs) ∧ fs.length ≤ 900 ∧ Q .non (upd H2 d (exd d ((pn, v') :: fs))))) := by
    intro v' H1 x1 tw
    have x0 := e1.trans x1
    have hd1 := x1 d _ ed1
    refine ⟨_, rfl, a, C, rfl, T, nP, .inr ⟨d, [("tag", .str cn)], x1 _ _ upd_same, hd1, (by show 1 ≤ 900; decide), ?_⟩⟩
    refine k v' _ (Ex.mut x0 nd0) ?_ ⟨d, by rw [upd_ne nda.symm]; exact x1 _ _ upd_same, upd_same⟩
    rcases tw with tw | ⟨t, t', xs, r, r', ht, ht', hx, hl⟩
    · exact .inl tw
    · exact .inr ⟨t, t', xs, r, r', by rw [upd_ne (at_ne hd1 ht exd_tup)]; exact ht, by rw [upd_ne (at_ne hd1 ht' exd_tup)]; exact ht', hx, hl⟩
  rcases hv with hv | ⟨t, xs, rfl, ht, hx, hl⟩
  · exact .inl ⟨v, rfl, hv, fin v _ (Ex.refl _) (.inl ⟨hv, rfl⟩)⟩
  · exact .inr ⟨t, xs, rfl, e1 _ _ ht, hx, hl, fun b H' hb ex hb' => fin (.ref b) H' ex (.inr ⟨t, b, xs, rfl, rfl, ex _ _ (e1 _ _ ht), hb', hx, hl⟩)⟩
theorem pure_init0 (cn : Str) (T : ExC K C) (nT : PySem.W.findIn K (.ref C) "tag" = some none) {vs : List V} {H : Hp} {Q : VK} {E : XK} (h : spI0 C cn vs H Q E) :
    tXst K "tag" (tVar 0) (tC (.str cn)) { nx := fun _ H' => Q .non H', rt := Q } (L2.start ["self"] vs) H := by
  obtain ⟨a, H0, rfl, ha, rfl, k⟩ := h
  refine ⟨_, rfl, a, C, rfl, T, nT, .inl ⟨upd_same, fun d hd nda => ?_⟩⟩
  have nd0 : H0 d = none := by rw [upd_ne nda] at hd; exact hd
  refine k _ (fun b o z => ?_) ⟨d, upd_same, by rw [upd_ne nda, upd_same]⟩
  have nb : b ≠ a := ne_of_none z ha
  rw [upd_ne nb, upd_ne (ne_of_none z nd0), upd_ne nb]
  exact z
end
end K03

/-! _law_same: data of any depth, alike in kind and value -/
namespace K03
open PySem L2 Evl OxK
inductive Dt where
  | f (v : V)
  | l (xs : List Dt)
  | t (xs : List Dt)
noncomputable instance decDt : DecidableEq Dt := fun _ _ => Classical.propDecidable _
/-- at the value v stands the data d, at most n deep -/
def Has (H : Hp) : Nat → V → Dt → Prop
  | 0, v, d => Flat v ∧ d = .f v
  | n + 1, v, d => (Flat v ∧ d = .f v) ∨ ∃ (a : Addr) (vs : List V) (ds : List Dt), v = .ref a ∧ ((H a = some (.lst vs) ∧ d = .l ds) ∨ (H a = some (.tup vs) ∧ d = .t ds)) ∧ vs.length = ds.length ∧ vs.length ≤ 1000 ∧
      ∀ (i : Nat) (x : V) (y : Dt), vs[i]? = some x → ds[i]? = some y → Has H n x y
theorem Has.ex {H H' : Hp} (e : Ex H H') : ∀ {n : Nat} {v : V} {d : Dt}, Has H n v d → Has H' n v d
  | 0, v, d, h => (show Flat v ∧ d = .f v from h)
  | n + 1, _, _, h => by
    rcases h with h | ⟨a, vs, ds, r, hk, hl, hb, hi⟩
    · exact .inl h
    · refine .inr ⟨a, vs, ds, r, ?_, hl, hb, fun i x y h1 h2 => Has.ex e (hi i x y h1 h2)⟩
      rcases hk with ⟨h1, h2⟩ | ⟨h1, h2⟩
      · exact .inl ⟨e _ _ h1, h2⟩
      · exact .inr ⟨e _ _ h1, h2⟩
theorem Has.up {H : Hp} : ∀ {n : Nat} {v : V} {d : Dt}, Has H n v d → Has H (n + 1) v d
  | 0, v, d, h => Or.inl (show Flat v ∧ d = .f v from h)
  | n + 1, _, _, h => by
    rcases h with h | ⟨a, vs, ds, r, hk, hl, hb, hi⟩
    · exact .inl h
    · exact .inr ⟨a, vs, ds, r, hk, hl, hb, fun i x y h1 h2 => Has.up (hi i x y h1 h2)⟩
/-! ### kinds -/
def six : List String := ["NoneType", "bool", "int", "str", "list", "tuple"]
def five : List String := ["list", "tuple", "bool", "int", "str"]
def isB (T S : String) : Bool := T == S || (T == "bool" && S == "int")
theorem kit_six : ∀ T ∈ six, ∀ S ∈ five, kitB T S = some (isB T S) := by decide +kernel
structure Kn (K : PySem.W.Frag) (H : Hp) (v : V) (T : String) : Prop where
  six : T ∈ six
  ty : ∀ H1, Ex H H1 → TyX K H1 v (.type T)
theorem Kn.ex {K : PySem.W.Frag} {H H' : Hp} {v : V} {T : String} (h : Kn K H v T) (e : Ex H H') : Kn K H' v T := ⟨h.six, fun H1 e1 => h.ty H1 (e.trans e1)⟩
theorem kn_flat {K : PySem.W.Frag} {H : Hp} {v : V} (h : Flat v) : Kn K H v (tyF v) := ⟨match v, h with
  | .non, _ => by decide
  | .bl _, _ => by show "bool" ∈ _; decide
  | .int _, _ => by show "int" ∈ _; decide
  | .str _, _ => by show "str" ∈ _; decide, fun _ _ => flat_ty h⟩
theorem kn_lst {K : PySem.W.Frag} {H : Hp} {a : Addr} {vs : List V} (h : H a = some (.lst vs)) : Kn K H (.ref a) "list" := ⟨by decide, fun _ e => .base (.lst (e _ _ h))⟩
theorem kn_tup {K : PySem.W.Frag} {H : Hp} {a : Addr} {vs : List V} (h : H a = some (.tup vs)) : Kn K H (.ref a) "tuple" := ⟨by decide, fun _ e => .base (.tup (e _ _ h))⟩
section
variable {K : PySem.W.Frag} {σ : L2.St} {H : Hp} {te : TE} {v : V} {T : String}
theorem ev_isi {S : String} (h : Ev te σ H v) (k : Kn K H v T) (hS : S ∈ five := by decide) : Ev (tCB (rIsi K) (tCons te (tCons (tC (.ty S)) tNil))) σ H (.bl (isB T S)) := fun H1 e Q q =>
  h H1 e _ fun H2 e2 => ⟨v, .ty S, _, _, isB T S, rfl, .ty S, k.ty H2 (e.trans e2), kit_ty (kit_six T k.six S hS), q H2 e2⟩
theorem ev_isN (h : Ev te σ H v) : Ev (tIsN te) σ H (.bl (decide (v = .non))) := fun H1 e Q q => h H1 e _ fun H2 e2 => q H2 e2
end
theorem ev_lenS {K : PySem.W.Frag} {σ : L2.St} {H : Hp} {te : TE} {p : Addr} {xs : List V} (h : Ev te σ H (.ref p)) (hx : SqL K H p xs ∨ SqT K H p xs) : Ev (tCB (rLenS K) (tCons te tNil)) σ H (.int (xs.length : Int)) := fun H1 e Q q =>
  h H1 e _ fun H2 e2 => ⟨p, xs, rfl, hx.elim (fun z => .inl (ex_l (e.trans e2) z)) (fun z => .inr (ex_t (e.trans e2) z)), q H2 e2⟩
/-- a comprehension over any walk -/
theorem lc_any {J : It} {n : Nat} {g : TG} {tt : TT} {te : TE} {vs : List Nat} {σ : L2.St} {H1 : Hp} {D : Addr} {Qd : Hp → Prop} (Pv : Nat → Hp → Prop) (h0 : Pv 0 (upd H1 D (.lst []))) (hgo : ∀ i H, i < n → Pv i H → J.go i H) (hst : ∀ H, Pv n H → J.stop n H)
    (hs : ∀ i H x H', i < n → Pv i H → J.yld i H x H' → g x (wipe σ vs) H' fun σ2 H2 => wipe σ2 vs = wipe σ vs ∧ tt σ2 H2 fun b H3 =>
      if b = true then te σ2 H3 fun y H4 => ∃ acc, H4 D = some (.lst acc) ∧ acc.length < sizeLine ∧ Pv (i + 1) (upd H4 D (.lst (acc ++ [y]))) else Pv (i + 1) H3) (hd : ∀ H, Pv n H → Qd H) :
    ∃ W : Nat → Nat → Hp → Prop, (∃ m, W 0 m (upd H1 D (.lst []))) ∧ ∀ i m H, W i m H →
      (J.stop i H ∧ Qd H) ∨ (J.go i H ∧ ∃ Nx : Hp → Prop, (∀ H', Nx H' → ∃ m', m' < m ∧ W (i + 1) m' H') ∧ ∀ x H', J.yld i H x H' → g x (wipe σ vs) H' fun σ2 H2 => wipe σ2 vs = wipe σ vs ∧ tt σ2 H2 fun b H3 =>
        if b = true then te σ2 H3 fun y H4 => ∃ acc, H4 D = some (.lst acc) ∧ acc.length < sizeLine ∧ Nx (upd H4 D (.lst (acc ++ [y]))) else Nx H3) := by
  refine ⟨fun i m H => i + m = n ∧ Pv i H, ⟨n, Nat.zero_add n, h0⟩, fun i m H ⟨e, p⟩ => ?_⟩
  cases m with
  | zero =>
    cases (show i = n from e)
    exact .inl ⟨hst H p, hd H p⟩
  | succ k =>
    have lt : i < n := by omega
    exact .inr ⟨hgo i H lt p, Pv (i + 1), fun H' p' => ⟨k, Nat.lt_succ_self k, by omega, p'⟩, fun x H' y => hs i H x H' lt p y⟩
/-! ### the def -/
def tIs (K : PySem.W.Frag) (i : Nat) (S : String) : TE := tCB (rIsi K) (tCons (tVar i) (tCons (tC (.ty S)) tNil))
/-- what follows where due is no list and no tuple -/
def t_tail (K : PySem.W.Frag) : TS :=
  tSeq (tIfS (tOr (tB (tIsN (tVar 1))) (tB (tIsN (tVar 0)))) (tRet (tAndV (tIsN (tVar 1)) (tIsN (tVar 0)))) tNext)
    (tSeq (tIfS (tOr (tTest (tOp rNe (tIs K 0 "bool") (tIs K 1 "bool"))) (tTest (tOp rNe (tIs K 0 "int") (tIs K 1 "int")))) (tRet (tC (.bl false))) tNext)
      (tRet (tAndV (tOp rEq (tIs K 0 "str") (tIs K 1 "str")) (tOp rEq (tVar 0) (tVar 1)))))
theorem pure_tail {K : PySem.W.Frag} {D : Ends} {H : Hp} {v w : V} {Tv : String} {r : List (Option V)} (fw : Flat w) (kv : Kn K H v Tv) (hv : (Flat v ∧ Tv = tyF v) ∨ ((Tv = "list" ∨ Tv = "tuple") ∧ ∃ a, v = .ref a))
    (k : ∀ H', Ex H H' → D.rt (.bl (decide (v = w))) H') : t_tail K D (some v :: some w :: r) H := by
  have kw := kn_flat (K := K) (H := H) fw
  refine s_if (et_or (et_B (ev_isN (ev_var rfl))) (fun _ => et_B (ev_isN (ev_var rfl)))) (fun h H1 e1 => ?_) (fun h H1 e1 => ?_)
  · refine s_ret (ev_andV (ev_isN (ev_var rfl)) (fun _ => ev_isN (ev_var rfl))) fun H2 e2 => ?_
    have e : (decide (w = V.non) && decide (v = V.non)) = decide (v = w) := by
      by_cases h1 : w = .non
      · rw [h1]
        simp
      · have h2 : v = .non := by simpa [h1] using h
        rw [h2]
        simp [h1, eq_comm]
    rw [e]
    exact k H2 (e1.trans e2)
  · have hn : ¬ w = .non ∧ ¬ v = .non := by simpa using h
    refine s_if (et_or (et_test (ev_op (ev_isi (ev_var rfl) (kv.ex e1)) (ev_isi (ev_var rfl) (kw.ex e1)) (rv_ne rfl))) (fun _ => et_test (ev_op (ev_isi (ev_var rfl) (kv.ex e1)) (ev_isi (ev_var rfl) (kw.ex e1)) (rv_ne rfl)))) (fun h' H2 e2 => ?_) (fun h' H2 e2 => ?_)
    · refine s_ret ev_c fun H3 e3 => ?_
      have e : decide (v = w) = false := by
        refine decide_eq_false fun q => ?_
        subst q
        rcases hv with ⟨_, rfl⟩ | ⟨_, a, rfl⟩
        · simp at h'
        · exact fw.elim
      have z := k H3 ((e1.trans e2).trans e3)
      rw [e] at z
      exact z
    · have hsc : decide (V.bl (isB Tv "str") = V.bl (isB (tyF w) "str")) = true → scal v w = true := fun hs => by
        have hb : isB Tv "bool" = isB (tyF w) "bool" ∧ isB Tv "int" = isB (tyF w) "int" ∧ isB Tv "str" = isB (tyF w) "str" := by
          have hs' := of_decide_eq_true hs
          simp at h' hs'
          exact ⟨h'.1, h'.2, hs'⟩
        clear h' hs
        rcases hv with ⟨fv, rfl⟩ | ⟨hT, a, rfl⟩
        · cases v <;> first | exact fv.elim | skip
          all_goals cases w <;> first | exact fw.elim | rfl | exact absurd hb (by simp [isB, tyF])
        · rcases hT with rfl | rfl
          all_goals cases w <;> first | exact fw.elim | exact absurd rfl hn.1 | exact absurd hb (by simp [isB, tyF])
      refine s_ret (ev_andV (ev_op (ev_isi (ev_var rfl) (kv.ex (e1.trans e2))) (ev_isi (ev_var rfl) (kw.ex (e1.trans e2))) (rv_eq rfl)) (fun hs => ev_op (ev_var rfl) (ev_var rfl) (rv_eq (hsc hs)))) fun H3 e3 => ?_
      have e : (decide (V.bl (isB Tv "str") = V.bl (isB (tyF w) "str")) && decide (v = w)) = decide (v = w) := by
        by_cases q : v = w
        · subst q
          rcases hv with ⟨_, rfl⟩ | ⟨_, a, rfl⟩
          · simp
          · exact fw.elim
        · rw [decide_eq_false q, Bool.and_false]
      rw [e]
      exact k H3 ((e1.trans e2).trans e3)
def spSame (n : Nat) : Sp := fun vs H Q _ => ∃ (v w : V) (d e : Dt), vs = [v, w] ∧ Has H n v d ∧ Has H n w e ∧ ∀ (b : Bool) (H' : Hp), (b = true ↔ d = e) → Ex H H' → Q (.bl b) H'
structure NoS (mg : Str → Option Value) : Prop where
  b : NoB mg
  bool : mg "bool" = none
  int : mg "int" = none
  str : mg "str" = none
  len : mg "len" = none
  all : mg "all" = none
  zip : mg "zip" = none
section
variable {P : Program} {w : World} {K : PySem.W.Frag} {mg : Str → Option Value} {base : Heap} {f : Addr} {fd : FuncData}
theorem scS : FnScope ["_law_found", "_law_due", "_law_one", "_law_other"] ["_law_found", "_law_due"] (defScope sSame) := ⟨rfl, rfl, rfl, by decide +kernel, rfl, by decide +kernel, by decide +kernel⟩
theorem ok_same0 (F : FnP K "_law_same" sSame f fd) (T : NoS mg) : FnOk P w K mg base CX0 1 f fd ["_law_found", "_law_due"] (spSame 0) := by
  refine F.ok scS (fun vs H Q E h => ?_) (fun cdv A outer s H vs Q E hr h => ?_)
  · obtain ⟨v, w, d, e, rfl, _⟩ := h
    rfl
  · obtain ⟨v, w, d, e, rfl, ⟨fv, rfl⟩, ⟨fw, rfl⟩, k⟩ := h
    refine ⟨_, PSs.nox (pss_cons (ps_if (PW.pt (pw_or (pt_val (pe_callB call_isi (by rfl) T.b.isi PyProof.Rows.boot_isinstance (pa_cons (pv 1) (pa_cons (pe_bltn (v := .ty "list") (by rfl) T.b.lst PyProof.Rows.boot_list rfl) pa_nil)))) (pw_or1 (pt_val (pe_callB call_isi (by rfl) T.b.isi PyProof.Rows.boot_isinstance (pa_cons (pv 1) (pa_cons (pe_bltn (v := .ty "tuple") (by rfl) T.b.tup PyProof.Rows.boot_tuple rfl) pa_nil))))))) pss_never pss_nil)
      (pss_cons (ps_if (PW.pt (pw_or (pt_cmp (pc_isN (pv 1))) (pw_or1 (pt_cmp (pc_isN (pv 0)))))) (pss_one (ps_ret (pe_and (pe_cmp (pc_isN (pv 1))) (pe_one (pe_cmp (pc_isN (pv 0))))))) pss_nil)
      (pss_cons (ps_if (PW.pt (pw_or (pt_cmpR op_ne (pe_callB call_isi (by rfl) T.b.isi PyProof.Rows.boot_isinstance (pa_cons (pv 0) (pa_cons (pe_bltn (v := .ty "bool") (by rfl) T.bool (by decide +kernel) rfl) pa_nil))) (pe_callB call_isi (by rfl) T.b.isi PyProof.Rows.boot_isinstance (pa_cons (pv 1) (pa_cons (pe_bltn (v := .ty "bool") (by rfl) T.bool (by decide +kernel) rfl) pa_nil))) (nomark _)) (pw_or1 (pt_cmpR op_ne (pe_callB call_isi (by rfl) T.b.isi PyProof.Rows.boot_isinstance (pa_cons (pv 0) (pa_cons (pe_bltn (v := .ty "int") (by rfl) T.int (by decide +kernel) rfl) pa_nil))) (pe_callB call_isi (by rfl) T.b.isi PyProof.Rows.boot_isinstance (pa_cons (pv 1) (pa_cons (pe_bltn (v := .ty "int") (by rfl) T.int (by decide +kernel) rfl) pa_nil))) (nomark _))))) (pss_one (ps_ret pe_bl)) pss_nil)
      (pss_one (ps_ret (pe_and (pe_cmpR op_eq (pe_callB call_isi (by rfl) T.b.isi PyProof.Rows.boot_isinstance (pa_cons (pv 0) (pa_cons (pe_bltn (v := .ty "str") (by rfl) T.str (by decide +kernel) rfl) pa_nil))) (pe_callB call_isi (by rfl) T.b.isi PyProof.Rows.boot_isinstance (pa_cons (pv 1) (pa_cons (pe_bltn (v := .ty "str") (by rfl) T.str (by decide +kernel) rfl) pa_nil))) (nomark _)) (pe_one (pe_cmpR op_eq (pv 0) (pv 1) (nomark _))))))))), ?_⟩
    have hb : (isB (tyF w) "list" || isB (tyF w) "tuple") = false := by cases w <;> first | exact fw.elim | rfl
    refine s_if (et_is (et_or (et_B (ev_isi (ev_var rfl) (kn_flat fw))) (fun _ => et_B (ev_isi (ev_var rfl) (kn_flat fw)))) hb) (fun h => nomatch h) fun _ H1 e1 => ?_
    refine pure_tail (K := K) (r := [none, none]) fw (kn_flat fv) (.inl ⟨fv, rfl⟩) fun H' e2 => k _ H' ?_ (e1.trans e2)
    rw [decide_eq_true_iff]
    exact ⟨fun e => by rw [e], fun e => Dt.f.inj e⟩
/-- what stands of the answers behind i turns -/
def Turns (H0 : Hp) (D : Addr) (ds es : List Dt) (i : Nat) (H' : Hp) : Prop := H0 D = none ∧ Ex H0 H' ∧ ∃ bs : List Bool, H' D = some (.lst (bs.map V.bl)) ∧ bs.length = i ∧
  ∀ (j : Nat) (d e : Dt) (b : Bool), ds[j]? = some d → es[j]? = some e → bs[j]? = some b → (b = true ↔ d = e)
theorem turns_all {ds es : List Dt} {bs : List Bool} (h1 : ds.length = es.length) (h2 : bs.length = ds.length) (h : ∀ (j : Nat) (d e : Dt) (b : Bool), ds[j]? = some d → es[j]? = some e → bs[j]? = some b → (b = true ↔ d = e)) :
    bs.all id = true ↔ ds = es := by
  rw [List.all_eq_true]
  constructor
  · intro q
    refine List.ext_getElem h1 fun j l1 l2 => ?_
    have hb := h j ds[j] es[j] (bs[j]'(by omega)) (List.getElem?_eq_getElem l1) (List.getElem?_eq_getElem l2) (List.getElem?_eq_getElem (by omega))
    exact hb.mp (q _ (List.getElem_mem _))
  · rintro rfl b hb
    obtain ⟨j, hj, rfl⟩ := List.mem_iff_getElem.mp hb
    exact (h j ds[j] ds[j] bs[j] (List.getElem?_eq_getElem (by omega)) (List.getElem?_eq_getElem (by omega)) (List.getElem?_eq_getElem hj)).mpr rfl
/-- one turn -/
theorem turn_one {K : PySem.W.Frag} {n i : Nat} {H0 H' : Hp} {D T : Addr} {x y : V} {dx dy : Dt} {ds es : List Dt} {σ : L2.St} (hσ : ∃ a b c d, σ = [a, b, c, d]) (p : Turns H0 D ds es i H') (hT : H' T = none) (hi : i < 1000) (hx : ds[i]? = some dx) (hy : es[i]? = some dy) (px : Has H0 n x dx) (py : Has H0 n y dy) :
    gTup K 2 (gCons (gName 2) (gCons (gName 3) gNil)) (.ref T) (wipe σ [2, 3]) (upd H' T (.tup [x, y])) fun σ2 H2 => wipe σ2 [2, 3] = wipe σ [2, 3] ∧ tYes σ2 H2 fun b H3 =>
      if b = true then tCall (spSame n) [] E0 (tCons (tVar 2) (tCons (tVar 3) tNil)) σ2 H3 fun z H4 => ∃ acc, H4 D = some (.lst acc) ∧ acc.length < sizeLine ∧ Turns H0 D ds es (i + 1) (upd H4 D (.lst (acc ++ [z]))) else Turns H0 D ds es (i + 1) H3 := by
  obtain ⟨a, b, c, d, rfl⟩ := hσ
  obtain ⟨free, e0, bs, hD, hl, hb⟩ := p
  have nDT : D ≠ T := ne_of_none hD hT
  have e1 : Ex H' (upd H' T (.tup [x, y])) := Ex.new hT
  refine ⟨T, [x, y], rfl, SqT.of upd_same, rfl, x, [y], rfl, y, [], rfl, rfl, rfl, ?_⟩
  refine tt_yes ?_
  refine ⟨_, rfl, _, rfl, x, y, dx, dy, rfl, px.ex (e0.trans e1), py.ex (e0.trans e1), fun r H4 hr e2 => ?_⟩
  refine ⟨bs.map V.bl, e2 _ _ (by rw [upd_ne nDT]; exact hD), small1000 (by rw [List.length_map]; omega), free, Ex.mut ((e0.trans e1).trans e2) free, bs ++ [r], by rw [upd_same, List.map_append]; rfl, by rw [List.length_append, hl]; rfl, ?_⟩
  intro j d' e' b' h1 h2 h3
  by_cases hj : j < i
  · rw [List.getElem?_append_left (by omega)] at h3
    exact hb j d' e' b' h1 h2 h3
  · have hj2 : j = i := by
      have := (List.getElem?_eq_some_iff.mp h3).1
      rw [List.length_append, hl] at this
      simp only [List.length_singleton] at this
      omega
    subst hj2
    rw [List.getElem?_append_right (by omega), hl] at h3
    simp at h3
    subst h3
    rw [hx] at h1
    rw [hy] at h2
    cases h1
    cases h2
    exact hr
theorem ok_same (F : FnP K "_law_same" sSame f fd) (T : NoS mg) (gS : mg "_law_same" = some (.ref f)) : ∀ n, FnOk P w K mg base CX0 (n + 1) f fd ["_law_found", "_law_due"] (spSame n)
  | 0 => ok_same0 F T
  | n + 1 => by
    have G : FnOk P w K mg base CX0 (n + 1) f fd ["_law_found", "_law_due"] (spSame n) := ok_same F T gS n
    have bS : Binds K fd ["_law_found", "_law_due"] [] := F.bindsN fun _ _ _ _ _ _ us hl => match us, hl with | [_, _], _ => rfl
    refine F.ok scS (fun vs H Q E h => ?_) (fun cdv A outer s H vs Q E hr h => ?_)
    · obtain ⟨v, w, d, e, rfl, _⟩ := h
      rfl
    · obtain ⟨v, w, d, e, rfl, hv, hw, k⟩ := h
      refine ⟨_, PSs.nox (pss_cons (ps_if (PW.pt (pw_or (pt_val (pe_callB call_isi (by rfl) T.b.isi PyProof.Rows.boot_isinstance (pa_cons (pv 1) (pa_cons (pe_bltn (v := .ty "list") (by rfl) T.b.lst PyProof.Rows.boot_list rfl) pa_nil)))) (pw_or1 (pt_val (pe_callB call_isi (by rfl) T.b.isi PyProof.Rows.boot_isinstance (pa_cons (pv 1) (pa_cons (pe_bltn (v := .ty "tuple") (by rfl) T.b.tup PyProof.Rows.boot_tuple rfl) pa_nil))))))) (pss_cons (ps_if (PW.pt (pw_or (pt_cmpR op_ne (pe_callB call_isi (by rfl) T.b.isi PyProof.Rows.boot_isinstance (pa_cons (pv 0) (pa_cons (pe_bltn (v := .ty "list") (by rfl) T.b.lst PyProof.Rows.boot_list rfl) pa_nil))) (pe_callB call_isi (by rfl) T.b.isi PyProof.Rows.boot_isinstance (pa_cons (pv 1) (pa_cons (pe_bltn (v := .ty "list") (by rfl) T.b.lst PyProof.Rows.boot_list rfl) pa_nil))) (nomark _)) (pw_or1 (pt_cmpR op_ne (pe_callB call_isi (by rfl) T.b.isi PyProof.Rows.boot_isinstance (pa_cons (pv 0) (pa_cons (pe_bltn (v := .ty "tuple") (by rfl) T.b.tup PyProof.Rows.boot_tuple rfl) pa_nil))) (pe_callB call_isi (by rfl) T.b.isi PyProof.Rows.boot_isinstance (pa_cons (pv 1) (pa_cons (pe_bltn (v := .ty "tuple") (by rfl) T.b.tup PyProof.Rows.boot_tuple rfl) pa_nil))) (nomark _))))) (pss_one (ps_ret pe_bl)) pss_nil)
        (pss_one (ps_ret (pe_and (pe_cmpR op_eq (pe_callB call_len_seq (by rfl) T.len PySem.boot_len (pa_cons (pv 0) pa_nil)) (pe_callB call_len_seq (by rfl) T.len PySem.boot_len (pa_cons (pv 1) pa_nil)) (nomark _)) (pe_one (pe_callB (cr_all rfl) (by rfl) T.all PyProof.Rows.boot_all (pa_cons (pe_lc (own := [("_law_one", 2), ("_law_other", 3)]) (g := gTup K 2 (gCons (gName 2) (gCons (gName 3) gNil))) (by rfl) scS.nd (RZ.pi_zipA (by rfl) T.zip (pa_cons (pv 0) (pa_cons (pv 1) pa_nil))) (blkOk_by (own := [("_law_one", 2), ("_law_other", 3)]) (N := ["_law_found", "_law_due", "_law_one", "_law_other"]) (sc := defScope sSame) (by decide +kernel))
          (fun _ _ _ _ _ => pg_tup (by rfl) (pgs_cons (pg_name (i := 2) scS.nd rfl (Or.inl rfl)) (pgs_cons (pg_name (i := 3) scS.nd rfl (Or.inl rfl)) pgs_nil))) (fun _ _ _ _ _ => pts_nil)
          (fun _ _ _ _ _ => pe_call G (hr.mono (by omega)) rfl gS F.kp bS .nil pass0 (pa_cons (pv 2) (pa_cons (pv 3) pa_nil)))) pa_nil))))))) pss_nil)
      (pss_cons (ps_if (PW.pt (pw_or (pt_cmp (pc_isN (pv 1))) (pw_or1 (pt_cmp (pc_isN (pv 0)))))) (pss_one (ps_ret (pe_and (pe_cmp (pc_isN (pv 1))) (pe_one (pe_cmp (pc_isN (pv 0))))))) pss_nil)
      (pss_cons (ps_if (PW.pt (pw_or (pt_cmpR op_ne (pe_callB call_isi (by rfl) T.b.isi PyProof.Rows.boot_isinstance (pa_cons (pv 0) (pa_cons (pe_bltn (v := .ty "bool") (by rfl) T.bool (by decide +kernel) rfl) pa_nil))) (pe_callB call_isi (by rfl) T.b.isi PyProof.Rows.boot_isinstance (pa_cons (pv 1) (pa_cons (pe_bltn (v := .ty "bool") (by rfl) T.bool (by decide +kernel) rfl) pa_nil))) (nomark _)) (pw_or1 (pt_cmpR op_ne (pe_callB call_isi (by rfl) T.b.isi PyProof.Rows.boot_isinstance (pa_cons (pv 0) (pa_cons (pe_bltn (v := .ty "int") (by rfl) T.int (by decide +kernel) rfl) pa_nil))) (pe_callB call_isi (by rfl) T.b.isi PyProof.Rows.boot_isinstance (pa_cons (pv 1) (pa_cons (pe_bltn (v := .ty "int") (by rfl) T.int (by decide +kernel) rfl) pa_nil))) (nomark _))))) (pss_one (ps_ret pe_bl)) pss_nil)
      (pss_one (ps_ret (pe_and (pe_cmpR op_eq (pe_callB call_isi (by rfl) T.b.isi PyProof.Rows.boot_isinstance (pa_cons (pv 0) (pa_cons (pe_bltn (v := .ty "str") (by rfl) T.str (by decide +kernel) rfl) pa_nil))) (pe_callB call_isi (by rfl) T.b.isi PyProof.Rows.boot_isinstance (pa_cons (pv 1) (pa_cons (pe_bltn (v := .ty "str") (by rfl) T.str (by decide +kernel) rfl) pa_nil))) (nomark _)) (pe_one (pe_cmpR op_eq (pv 0) (pv 1) (nomark _))))))))), ?_⟩
      rcases hw with ⟨fw, rfl⟩ | ⟨b, ws, es, rfl, hwk, hwl, hwb, hwi⟩
      · have hb : (isB (tyF w) "list" || isB (tyF w) "tuple") = false := by cases w <;> first | exact fw.elim | rfl
        refine s_if (et_is (et_or (et_B (ev_isi (ev_var rfl) (kn_flat fw))) (fun _ => et_B (ev_isi (ev_var rfl) (kn_flat fw)))) hb) (fun h => nomatch h) fun _ H1 e1 => ?_
        rcases hv with ⟨fv, rfl⟩ | ⟨a, vs, ds, rfl, hvk, hvl, hvb, hvi⟩
        · refine pure_tail (K := K) (r := [none, none]) fw (kn_flat fv) (.inl ⟨fv, rfl⟩) fun H' e2 => k _ H' ?_ (e1.trans e2)
          rw [decide_eq_true_iff]
          exact ⟨fun e => by rw [e], fun e => Dt.f.inj e⟩
        · have hne : ¬ V.ref a = w := fun e => by
            rw [← e] at fw
            exact fw.elim
          rcases hvk with ⟨ha, rfl⟩ | ⟨ha, rfl⟩
          · refine pure_tail (K := K) (r := [none, none]) fw ((kn_lst ha).ex e1) (.inr ⟨.inl rfl, a, rfl⟩) fun H' e2 => k _ H' ?_ (e1.trans e2)
            rw [decide_eq_true_iff]
            exact ⟨fun e => absurd e hne, fun e => nomatch e⟩
          · refine pure_tail (K := K) (r := [none, none]) fw ((kn_tup ha).ex e1) (.inr ⟨.inr rfl, a, rfl⟩) fun H' e2 => k _ H' ?_ (e1.trans e2)
            rw [decide_eq_true_iff]
            exact ⟨fun e => absurd e hne, fun e => nomatch e⟩
      · rcases hwk with ⟨hb, rfl⟩ | ⟨hb, rfl⟩
        · refine s_if (et_is (et_or (et_B (ev_isi (ev_var rfl) (kn_lst hb))) (fun _ => et_B (ev_isi (ev_var rfl) (kn_lst hb)))) (by decide : _ = true)) (fun _ H1 e1 => ?_) (fun h => nomatch h)
          rcases hv with ⟨fv, rfl⟩ | ⟨a, vs, ds, rfl, ⟨ha, rfl⟩ | ⟨ha, rfl⟩, hvl, hvb, hvi⟩
          · have z : ((!decide (V.bl (isB (tyF v) "list") = V.bl (isB "list" "list"))) || !decide (V.bl (isB (tyF v) "tuple") = V.bl (isB "list" "tuple"))) = true := by cases v <;> first | exact fv.elim | rfl
            refine s_if (et_is (et_or (et_test (ev_op (ev_isi (ev_var rfl) ((kn_flat (K := K) (H := H) fv).ex e1)) (ev_isi (ev_var rfl) ((kn_lst (K := K) hb).ex e1)) (rv_ne rfl))) (fun _ => et_test (ev_op (ev_isi (ev_var rfl) ((kn_flat (K := K) (H := H) fv).ex e1)) (ev_isi (ev_var rfl) ((kn_lst (K := K) hb).ex e1)) (rv_ne rfl)))) z) (fun _ H2 e2 => ?_) (fun h => nomatch h)
            exact s_ret ev_c fun H3 e3 => k false H3 ⟨fun h => (nomatch h), fun h => (nomatch h)⟩ ((e1.trans e2).trans e3)
          · skip
            refine s_if (et_is (et_or (et_test (ev_op (ev_isi (ev_var rfl) ((kn_lst (K := K) ha).ex e1)) (ev_isi (ev_var rfl) ((kn_lst (K := K) hb).ex e1)) (rv_ne rfl))) (fun _ => et_test (ev_op (ev_isi (ev_var rfl) ((kn_lst (K := K) ha).ex e1)) (ev_isi (ev_var rfl) ((kn_lst (K := K) hb).ex e1)) (rv_ne rfl)))) (by decide : _ = false)) (fun h => nomatch h) (fun _ H2 e2 => ?_)
            have e12 := e1.trans e2
            refine s_ret (ev_andV (ev_op (ev_lenS (ev_var rfl) (.inl (SqL.of (e12 _ _ ha)))) (ev_lenS (ev_var rfl) (.inl (SqL.of (e12 _ _ hb)))) (rv_eq rfl)) (b := decide (ds = es)) (fun hlen => ?_)) fun H3 e3 => ?_
            · have hl : vs.length = ws.length := Int.ofNat.inj (V.int.inj (of_decide_eq_true hlen))
              have hl2 : ds.length = es.length := by omega
              intro H4 e4 Q' q'
              have e14 := e12.trans e4
              refine ⟨_, rfl, _, rfl, a, b, vs, ws, rfl, .inl ⟨SqL.of (e14 _ _ ha), SqL.of (e14 _ _ hb), fun D hD => ?_⟩⟩
              refine lc_any (J := Itz K a b) (n := vs.length) (Turns H4 D ds es) ⟨hD, Ex.new hD, [], upd_same, rfl, fun j d' e' b' _ _ h3 => by simp at h3⟩ (fun i H5 hi p => ?_) (fun H5 p => ?_) (fun i H5 x H6 hi p y => ?_) (fun H5 p => ?_)
              · have e5 := e14.trans p.2.1
                exact ⟨vs, ws, vs[i], ws[i]'(by omega), SqL.of (e5 _ _ ha), SqL.of (e5 _ _ hb), List.getElem?_eq_getElem hi, List.getElem?_eq_getElem (by omega)⟩
              · have e5 := e14.trans p.2.1
                exact ⟨vs, ws, SqL.of (e5 _ _ ha), SqL.of (e5 _ _ hb), .inl (Nat.le_refl _)⟩
              · obtain ⟨T, x', y', rfl, hT, rfl, f1, f2⟩ := y
                have e5 := e14.trans p.2.1
                have hx := f1 vs (SqL.of (e5 _ _ ha))
                have hy := f2 ws (SqL.of (e5 _ _ hb))
                have hdx : ds[i]? = some (ds[i]'(by omega)) := List.getElem?_eq_getElem _
                have hdy : es[i]? = some (es[i]'(by omega)) := List.getElem?_eq_getElem _
                exact turn_one ⟨_, _, _, _, rfl⟩ p hT (by omega) hdx hdy ((hvi i _ _ hx hdx).ex e14) ((hwi i _ _ hy hdy).ex e14)
              · obtain ⟨_, e5, bs, hD5, hl5, hb5⟩ := p
                refine ⟨D, bs, rfl, SqL.of hD5, ?_⟩
                have z : bs.all id = decide (ds = es) := by
                  have := turns_all hl2 (by omega) hb5
                  by_cases q : ds = es
                  · rw [decide_eq_true q, this.mpr q]
                  · rw [decide_eq_false q]
                    exact Bool.eq_false_iff.mpr fun h => q (this.mp h)
                rw [z]
                exact q' H5 e5
            · refine k _ H3 ?_ (e12.trans e3)
              rw [Bool.and_eq_true, decide_eq_true_iff, decide_eq_true_iff]
              refine ⟨fun h => by rw [h.2], fun h => ?_⟩
              have h2 := Dt.l.inj h
              subst h2
              exact ⟨by rw [hvl, hwl], rfl⟩
          · skip
            refine s_if (et_is (et_or (et_test (ev_op (ev_isi (ev_var rfl) ((kn_tup (K := K) ha).ex e1)) (ev_isi (ev_var rfl) ((kn_lst (K := K) hb).ex e1)) (rv_ne rfl))) (fun _ => et_test (ev_op (ev_isi (ev_var rfl) ((kn_tup (K := K) ha).ex e1)) (ev_isi (ev_var rfl) ((kn_lst (K := K) hb).ex e1)) (rv_ne rfl)))) (by decide : _ = true)) (fun _ H2 e2 => ?_) (fun h => nomatch h)
            exact s_ret ev_c fun H3 e3 => k false H3 ⟨fun h => (nomatch h), fun h => (nomatch h)⟩ ((e1.trans e2).trans e3)
        · refine s_if (et_is (et_or (et_B (ev_isi (ev_var rfl) (kn_tup hb))) (fun _ => et_B (ev_isi (ev_var rfl) (kn_tup hb)))) (by decide : _ = true)) (fun _ H1 e1 => ?_) (fun h => nomatch h)
          rcases hv with ⟨fv, rfl⟩ | ⟨a, vs, ds, rfl, ⟨ha, rfl⟩ | ⟨ha, rfl⟩, hvl, hvb, hvi⟩
          · have z : ((!decide (V.bl (isB (tyF v) "list") = V.bl (isB "tuple" "list"))) || !decide (V.bl (isB (tyF v) "tuple") = V.bl (isB "tuple" "tuple"))) = true := by cases v <;> first | exact fv.elim | rfl
            refine s_if (et_is (et_or (et_test (ev_op (ev_isi (ev_var rfl) ((kn_flat (K := K) (H := H) fv).ex e1)) (ev_isi (ev_var rfl) ((kn_tup (K := K) hb).ex e1)) (rv_ne rfl))) (fun _ => et_test (ev_op (ev_isi (ev_var rfl) ((kn_flat (K := K) (H := H) fv).ex e1)) (ev_isi (ev_var rfl) ((kn_tup (K := K) hb).ex e1)) (rv_ne rfl)))) z) (fun _ H2 e2 => ?_) (fun h => nomatch h)
            exact s_ret ev_c fun H3 e3 => k false H3 ⟨fun h => (nomatch h), fun h => (nomatch h)⟩ ((e1.trans e2).trans e3)
          · skip
            refine s_if (et_is (et_or (et_test (ev_op (ev_isi (ev_var rfl) ((kn_lst (K := K) ha).ex e1)) (ev_isi (ev_var rfl) ((kn_tup (K := K) hb).ex e1)) (rv_ne rfl))) (fun _ => et_test (ev_op (ev_isi (ev_var rfl) ((kn_lst (K := K) ha).ex e1)) (ev_isi (ev_var rfl) ((kn_tup (K := K) hb).ex e1)) (rv_ne rfl)))) (by decide : _ = true)) (fun _ H2 e2 => ?_) (fun h => nomatch h)
            exact s_ret ev_c fun H3 e3 => k false H3 ⟨fun h => (nomatch h), fun h => (nomatch h)⟩ ((e1.trans e2).trans e3)
          · skip
            refine s_if (et_is (et_or (et_test (ev_op (ev_isi (ev_var rfl) ((kn_tup (K := K) ha).ex e1)) (ev_isi (ev_var rfl) ((kn_tup (K := K) hb).ex e1)) (rv_ne rfl))) (fun _ => et_test (ev_op (ev_isi (ev_var rfl) ((kn_tup (K := K) ha).ex e1)) (ev_isi (ev_var rfl) ((kn_tup (K := K) hb).ex e1)) (rv_ne rfl)))) (by decide : _ = false)) (fun h => nomatch h) (fun _ H2 e2 => ?_)
            have e12 := e1.trans e2
            refine s_ret (ev_andV (ev_op (ev_lenS (ev_var rfl) (.inr (SqT.of (e12 _ _ ha)))) (ev_lenS (ev_var rfl) (.inr (SqT.of (e12 _ _ hb)))) (rv_eq rfl)) (b := decide (ds = es)) (fun hlen => ?_)) fun H3 e3 => ?_
            · have hl : vs.length = ws.length := Int.ofNat.inj (V.int.inj (of_decide_eq_true hlen))
              have hl2 : ds.length = es.length := by omega
              intro H4 e4 Q' q'
              have e14 := e12.trans e4
              refine ⟨_, rfl, _, rfl, a, b, vs, ws, rfl, .inr ⟨SqT.of (e14 _ _ ha), SqT.of (e14 _ _ hb), fun D hD => ?_⟩⟩
              refine lc_any (J := RZ.ItzT K a b) (n := vs.length) (Turns H4 D ds es) ⟨hD, Ex.new hD, [], upd_same, rfl, fun j d' e' b' _ _ h3 => by simp at h3⟩ (fun i H5 hi p => ?_) (fun H5 p => ?_) (fun i H5 x H6 hi p y => ?_) (fun H5 p => ?_)
              · have e5 := e14.trans p.2.1
                exact ⟨vs, ws, vs[i], ws[i]'(by omega), SqT.of (e5 _ _ ha), SqT.of (e5 _ _ hb), List.getElem?_eq_getElem hi, List.getElem?_eq_getElem (by omega)⟩
              · have e5 := e14.trans p.2.1
                exact ⟨vs, ws, SqT.of (e5 _ _ ha), SqT.of (e5 _ _ hb), .inl (Nat.le_refl _)⟩
              · obtain ⟨T, x', y', rfl, hT, rfl, f1, f2⟩ := y
                have e5 := e14.trans p.2.1
                have hx := f1 vs (SqT.of (e5 _ _ ha))
                have hy := f2 ws (SqT.of (e5 _ _ hb))
                have hdx : ds[i]? = some (ds[i]'(by omega)) := List.getElem?_eq_getElem _
                have hdy : es[i]? = some (es[i]'(by omega)) := List.getElem?_eq_getElem _
                exact turn_one ⟨_, _, _, _, rfl⟩ p hT (by omega) hdx hdy ((hvi i _ _ hx hdx).ex e14) ((hwi i _ _ hy hdy).ex e14)
              · obtain ⟨_, e5, bs, hD5, hl5, hb5⟩ := p
                refine ⟨D, bs, rfl, SqL.of hD5, ?_⟩
                have z : bs.all id = decide (ds = es) := by
                  have := turns_all hl2 (by omega) hb5
                  by_cases q : ds = es
                  · rw [decide_eq_true q, this.mpr q]
                  · rw [decide_eq_false q]
                    exact Bool.eq_false_iff.mpr fun h => q (this.mp h)
                rw [z]
                exact q' H5 e5
            · refine k _ H3 ?_ (e12.trans e3)
              rw [Bool.and_eq_true, decide_eq_true_iff, decide_eq_true_iff]
              refine ⟨fun h => by rw [h.2], fun h => ?_⟩
              have h2 := Dt.t.inj h
              subst h2
              exact ⟨by rw [hvl, hwl], rfl⟩
end
end K03

/-! zip over two things that never change, texts and tuples mixed -/
namespace L2
open PySem PySem.Spec PyProof.Rows
/-- one side of a zip: its iterator at i; n items; itm k y: the k-th is y -/
structure Side (P : Program) (w : World) (K : PySem.W.Frag) (i : Addr) (fp : List Addr) (n : Nat) (Pv : Nat → Value → Prop) (It So : Nat → Heap → Prop) (hold : Hp → Prop) (itm : Nat → V → Prop) : Prop where
  dr : ∀ A : Around, A.handled = none → Draws P w A i fp n Pv (fun k h => It k h ∧ So k h)
  cell : ∀ k h, It k h → ∃ o, h.get? i = some o ∧ ∀ v, o.data ≠ .cell v
  at_ : ∀ k (h h' : Heap), It k h → (∀ o, h.get? i = some o → h'.get? i = some o) → It k h'
  so : ∀ (X : Cx) (pins : List (Addr × Obj)) (σ : St) (H : Hp) (s : Shared) (k : Nat), X.K = K → Inv X pins σ H s → hold H → So k s.heap
  rel : ∀ (X : Cx) (pins : List (Addr × Obj)) (σ : St) (H : Hp) (s : Shared) (k : Nat) (x : Value), X.K = K → Inv X pins σ H s → hold H → Pv k x → ∃ y, itm k y ∧ RelV y x
def ItzG (n1 n2 : Nat) (h1 h2 : Hp → Prop) (m1 m2 : Nat → V → Prop) : It :=
  ⟨fun i H => i < n1 ∧ i < n2 ∧ h1 H ∧ h2 H, fun i H v H' => ∃ T x y, v = .ref T ∧ H T = none ∧ H' = upd H T (.tup [x, y]) ∧ m1 i x ∧ m2 i y, fun i H => i ≤ n1 ∧ i ≤ n2 ∧ (i = n1 ∨ i = n2) ∧ h1 H ∧ h2 H⟩
section
variable {P : Program} {w : World} {K : PySem.W.Frag} {z TI TO i1 i2 : Addr} {fp1 fp2 : List Addr} {n1 n2 : Nat} {P1 P2 : Nat → Value → Prop} {I1 S1 I2 S2 : Nat → Heap → Prop} {h1 h2 : Hp → Prop} {m1 m2 : Nat → V → Prop}
theorem turn_zipG {elts : List Expr} {kk : Nat} {tpos : Pos} (D : ZipSep2 z TI TO i1 i2 fp1 fp2) (A1 : Side P w K i1 fp1 n1 P1 I1 S1 h1 m1) (A2 : Side P w K i2 fp2 n2 P2 I2 S2 h2 m2) :
    Turn P w K (.Tuple elts kk tpos) (ItzG n1 n2 h1 h2 m1 m2) [z, TI, TO, i1, i2] z
      (fun i h => IsZip h z TI TO .none ∧ IsTupOf2 h TI (.ref i1) (.ref i2) ∧ (∃ x y, IsTupOf2 h TO x y) ∧ I1 i h ∧ I2 i h) where
  mem := List.mem_cons_self
  obj := fun i h ⟨a1, a2, ⟨x, y, a3⟩, a4, a5⟩ c hc => by
    simp only [List.mem_cons, List.not_mem_nil, or_false] at hc
    rcases hc with rfl | rfl | rfl | rfl | rfl
    · exact ⟨_, a1, fun _ q => nomatch q⟩
    · exact ⟨_, a2, fun _ q => nomatch q⟩
    · exact ⟨_, a3, fun _ q => nomatch q⟩
    · exact A1.cell i h a4
    · exact A2.cell i h a5
  keep := fun i h h' ⟨a1, a2, ⟨x, y, a3⟩, a4, a5⟩ k =>
    ⟨k z (by simp) _ a1, k TI (by simp) _ a2, ⟨x, y, k TO (by simp) _ a3⟩, A1.at_ i h h' a4 fun o => k i1 (by simp) o, A2.at_ i h h' a5 fun o => k i2 (by simp) o⟩
  item := by
    intro X hP hw hK hc i pins s σ H E I hf ⟨a1, a2, ⟨x0, y0, a3⟩, a4, a5⟩ ⟨l1, l2, g1, g2⟩
    subst hP hw
    have zl : z < s.heap.objs.size := Heap.lt_size a1
    refine wpAny_pyNext_zipD2_item D (A1.dr _ (I.ok.hd hc)) (A2.dr _ (I.ok.hd hc)) a1 a2 a3 ⟨a4, A1.so X pins σ H s i hK I g1⟩ ⟨a5, A2.so X pins σ H s i hK I g2⟩ l1 l2 fun u1 u2 h' tk p1 p2 b1 b2 b3 b4 b5 b6 kp => ?_
    obtain ⟨x, mx, rx⟩ := A1.rel X pins σ H s i u1 hK I g1 p1
    obtain ⟨y, my, ry⟩ := A2.rel X pins σ H s i u2 hK I g2 p2
    refine ⟨_, rfl, wpAny_letOwnedTupleGo_zip (s := { s with heap := h', toks := tk }) b1 fun h'' b1' sb => ?_⟩
    have tup : h''.get? s.heap.objs.size = some { cls := .type "tuple", data := .seq #[u1, u2] } := (sb.2 _ (Nat.ne_of_gt zl)).trans b5
    have new : ObjOk X.prog X.w (upd H s.heap.objs.size (.tup [x, y])) h'' s.heap.objs.size (.tup [x, y]) :=
      ⟨by show 2 ≤ sizeLine; decide, [u1, u2], .cons rx (.cons ry .nil), ⟨_, tup, rfl, _, rfl⟩⟩
    have J : Inv X pins σ (upd H s.heap.objs.size (.tup [x, y])) { s with heap := h'', toks := tk } :=
      I.turnedNew (t' := tk) (ch := [z, TI, TO, i1, i2]) (fun c o nb q => by
        simp only [List.mem_cons, List.not_mem_nil, or_false, not_or] at nb
        exact (sb.2 c nb.1).trans (kp c o nb.1 nb.2.2.1 nb.2.2.2.1 nb.2.2.2.2 q)) hf (Nat.le_refl _) new
    have i1z : i1 ≠ z := fun q => D.zi1 q.symm
    have i2z : i2 ≠ z := fun q => D.zi2 q.symm
    refine ⟨.ref s.heap.objs.size, _, J, rfl, ⟨_, x, y, rfl, I.hok.fresh (Nat.le_refl _), rfl, mx, my⟩, ⟨b1', (sb.2 _ D.TIz).trans (kp TI _ D.TIz D.TITO D.TIi1 D.TIi2 a2), ⟨u1, u2, (sb.2 _ D.TOz).trans b2⟩, A1.at_ _ _ _ b3.1 fun o q => (sb.2 _ i1z).trans q, A2.at_ _ _ _ b4.1 fun o q => (sb.2 _ i2z).trans q⟩, fun c hcm => ?_⟩
    have lt : c < s.heap.objs.size := by
      simp only [List.mem_cons, List.not_mem_nil, or_false] at hcm
      rcases hcm with rfl | rfl | rfl | rfl | rfl
      · exact zl
      · exact Heap.lt_size a2
      · exact Heap.lt_size a3
      · obtain ⟨_, q, _⟩ := A1.cell i _ a4
        exact Heap.lt_size q
      · obtain ⟨_, q, _⟩ := A2.cell i _ a5
        exact Heap.lt_size q
    rw [upd_ne (Nat.ne_of_lt lt)]
    exact (hf c hcm).1
  done := by
    intro X hP hw hK hc i pins s σ H E I hf ⟨a1, a2, ⟨x0, y0, a3⟩, a4, a5⟩ ⟨l1, l2, en, g1, g2⟩
    subst hP hw
    exact wpAny_pyNext_zipD2_end D (A1.dr _ (I.ok.hd hc)) (A2.dr _ (I.ok.hd hc)) a1 a2 a3 ⟨a4, A1.so X pins σ H s i hK I g1⟩ ⟨a5, A2.so X pins σ H s i hK I g2⟩ l1 l2 en fun h' tk kp =>
      ⟨rfl, I.turnedL (t' := tk) (ch := [z, TI, TO, i1, i2]) (fun c o nb q => by
        simp only [List.mem_cons, List.not_mem_nil, or_false, not_or] at nb
        exact kp c o nb.1 nb.2.2.1 nb.2.2.2.1 nb.2.2.2.2 q) hf⟩
  self := fun A i s Q E st h => wpAny_pyIter_zip st.1 h
end
end L2

namespace L2
open PySem PySem.Spec PyProof.Rows
theorem draws_tup {P : Program} {w : World} {A : Around} (hh : A.handled = none) {i b : Addr} (hne : b ≠ i) (ys : List V) :
    Draws P w A i [i, b] ys.length (fun k v => ∃ y, ys[k]? = some y ∧ RelV y v) (fun k h => h.IsTupleIter i b k ∧ ∃ its : List Value, Vals ys its ∧ h.IsTuple b its.toArray) where
  live := fun _ _ st => let ⟨o, ho, _⟩ := st.1; ⟨o, ho⟩
  frame := fun _ _ _ st hk => ⟨st.1.at fun o e => hk i (by simp) o e, let ⟨its, rv, p⟩ := st.2; ⟨its, rv, p.at fun o e => hk b (by simp) o e⟩⟩
  item := fun k s Q E hi ⟨s1, its, rv, p⟩ hQ => by
    have el : its.toArray.size = ys.length := by
      have := rv.length
      simp
      omega
    refine (Draws.tuple hh i b hne its.toArray).item k s Q E (by omega) ⟨s1, p⟩ fun x h' tk px st' sb => hQ x h' tk ?_ ⟨st'.1, its, rv, st'.2⟩ sb
    obtain ⟨u, hu, ru⟩ := rv.get (List.getElem?_eq_getElem hi)
    have eu : u = x := by
      have z : its[k]? = some x := by simpa using px
      rw [hu] at z
      exact Option.some.inj z
    subst eu
    exact ⟨_, List.getElem?_eq_getElem hi, ru⟩
  done := fun s Q E ⟨s1, its, rv, p⟩ hE => by
    have el : its.toArray.size = ys.length := by
      have := rv.length
      simp
      omega
    refine (Draws.tuple hh i b hne its.toArray).done s Q E ⟨?_, p⟩ hE
    rw [el]
    exact s1
theorem side_tup {P : Program} {w : World} {K : PySem.W.Frag} {i b : Addr} (hne : b ≠ i) (ys : List V) :
    Side P w K i [i, b] ys.length (fun k v => ∃ y, ys[k]? = some y ∧ RelV y v) (fun k h => h.IsTupleIter i b k) (fun _ h => ∃ its : List Value, Vals ys its ∧ h.IsTuple b its.toArray) (fun H => SqT K H b ys) (fun k y => ys[k]? = some y) where
  dr := fun A hh => draws_tup hh hne ys
  cell := fun k h ⟨o, e, _, d⟩ => ⟨o, e, fun v q => by rw [d] at q; cases q⟩
  at_ := fun k h h' st f => st.at f
  so := fun X pins σ H s k hK I hq => by
    subst hK
    obtain ⟨its, rv, p, _⟩ := I.tuple hq
    exact ⟨its, rv, p⟩
  rel := fun X pins σ H s k x _ _ _ hx => hx
theorem side_txt {P : Program} {w : World} {K : PySem.W.Frag} {i : Addr} (x : Str) (t : Tok) :
    Side P w K i [i] x.cps.size (fun k v => ∃ c u, x.cps[k]? = some c ∧ v = .str ⟨#[c]⟩ u) (fun k h => h.IsStrIter i (strIterType x) x t k) (fun _ _ => True) (fun _ => True) (fun k y => ∃ c, x.cps[k]? = some c ∧ y = .str ⟨#[c]⟩) where
  dr := fun A hh => {
    live := fun _ _ st => let ⟨o, ho, _⟩ := st.1; ⟨o, ho⟩
    frame := fun k h h' st hk => ⟨(Draws.text (prog := P) (w := w) hh i x t).frame k h h' st.1 hk, True.intro⟩
    item := fun k s Q E hi st hQ => (Draws.text hh i x t).item k s Q E hi st.1 fun y h' tk p st' sb => hQ y h' tk p ⟨st', True.intro⟩ sb
    done := fun s Q E st hE => (Draws.text hh i x t).done s Q E st.1 hE }
  cell := fun k h ⟨o, e, _, d⟩ => ⟨o, e, fun v q => by rw [d] at q; cases q⟩
  at_ := fun k h h' ⟨o, e, r⟩ f => ⟨o, f o e, r⟩
  so := fun _ _ _ _ _ _ _ _ _ => True.intro
  rel := fun X pins σ H s k v _ _ _ ⟨c, u, hc, e⟩ => ⟨.str ⟨#[c]⟩, ⟨c, hc, rfl⟩, by
    subst e
    exact ⟨u, rfl⟩⟩
/-- what a zip may walk here: a tuple, a text -/
inductive Zs (K : PySem.W.Frag) (H : Hp) : V → Nat → (Hp → Prop) → (Nat → V → Prop) → Prop where
  | tup {b : Addr} {ys : List V} (h : SqT K H b ys) : Zs K H (.ref b) ys.length (fun H => SqT K H b ys) (fun k y => ys[k]? = some y)
  | txt (x : Str) : Zs K H (.str x) x.cps.size (fun _ => True) (fun k y => ∃ c, x.cps[k]? = some c ∧ y = .str ⟨#[c]⟩)
section
variable {X : Cx} {pins : List (Addr × Obj)} {σ : St} {H : Hp} {s : Shared}
theorem zs_side {v : V} {u : Value} {n : Nat} {hold : Hp → Prop} {m : Nat → V → Prop} (Z : Zs X.K H v n hold m) (r : RelV v u) (I : Inv X pins σ H s) :
    ∃ (o : Obj) (B : Heap → Prop), Begins u o B ∧ B s.heap ∧ hold H ∧ ∀ i, s.heap.objs.size ≤ i → ∃ (fp : List Addr) (P : Nat → Value → Prop) (It So : Nat → Heap → Prop), Side X.prog X.w X.K i fp n P It So hold m ∧ i ∈ fp ∧ (∀ c, s.heap.objs.size ≤ c → c ≠ i → c ∉ fp) ∧ ∀ h' : Heap, h'.get? i = some o → It 0 h' := by
  cases Z with
  | @tup b ys hq =>
    cases r
    obtain ⟨its, rv, p, _⟩ := I.tuple hq
    have lb : b < s.heap.objs.size := by
      obtain ⟨_, q, _⟩ := p
      exact Heap.lt_size q
    refine ⟨_, _, begins_tuple b its.toArray, p, hq, fun i hi => ⟨_, _, _, _, side_tup (Nat.ne_of_lt (Nat.lt_of_lt_of_le lb hi)) ys, List.mem_cons_self, fun c hc nc => ?_, fun h' q => ⟨_, q, rfl, rfl⟩⟩⟩
    simp only [List.mem_cons, List.not_mem_nil, or_false, not_or]
    exact ⟨nc, Nat.ne_of_gt (Nat.lt_of_lt_of_le lb hc)⟩
  | txt x =>
    obtain ⟨t, rfl⟩ := r
    refine ⟨_, _, begins_text x t, True.intro, True.intro, fun i hi => ⟨_, _, _, _, side_txt x t, List.mem_cons_self, fun c hc nc => ?_, fun h' q => ⟨_, q, rfl, rfl⟩⟩⟩
    simp only [List.mem_cons, List.not_mem_nil, or_false]
    exact nc
end
theorem neA {a b : Nat} (h : a ≠ b) : (a : Addr) ≠ (b : Addr) := h
def iZipM (K : PySem.W.Frag) (ta : TA) : TI := fun σ H R => ta σ H fun vs H1 => ∃ (v1 v2 : V) (n1 n2 : Nat) (h1 h2 : Hp → Prop) (m1 m2 : Nat → V → Prop), vs = [v1, v2] ∧ Zs K H1 v1 n1 h1 m1 ∧ Zs K H1 v2 n2 h2 m2 ∧ R (ItzG n1 n2 h1 h2 m1 m2) H1
theorem pi_zipM {X : Cx} {e e2 : Expr} {ta : TA} {p pos tpos : Pos} {elts : List Expr} {kk : Nat} (hg : Gl X "zip") (hm : X.mg "zip" = none) (ha : PA X [e, e2] ta)
    (hs : starEach [e, e2] X.env = (false, eval e X.env) :: starEach [e2] X.env := by rfl) (hpl : (backTo pos (starEach [e2] X.env)).any (·.1) = false := by rfl) :
    PI X (.Tuple elts kk tpos) (.Call (.Name "zip" p) [e, e2] [] pos) (iZipM X.K ta) := by
  refine ⟨fun pins s σ H R I h => Call_ (ld_blt I hg hm PyProof.Rows.boot_zip (PyProof.Rows.callWith_type1 (thn (ha.run pos pins s σ H _ I h) fun us s1 ⟨vs, H1, I1, r1, q1⟩ => ?_) hs hpl))⟩
  obtain ⟨v1, v2, n1, n2, h1, h2, m1, m2, ex, Z1, Z2, q⟩ := q1
  subst ex
  obtain ⟨u1, u2, rfl, ra, rb⟩ := vals2 r1
  obtain ⟨o1, B1, b1, c1, k1, f1⟩ := zs_side Z1 ra I1
  obtain ⟨o2, B2, b2, c2, k2, f2⟩ := zs_side Z2 rb I1
  obtain ⟨fp1, P1, It1, S1, A1, e1, x1, t1⟩ := f1 s1.heap.objs.size (Nat.le_refl _)
  obtain ⟨fp2, P2, It2, S2, A2, e2', x2, t2⟩ := f2 (s1.heap.objs.size + 1) (Nat.le_succ _)
  have fresh : ∀ c, c ∈ [s1.heap.objs.size + 4, s1.heap.objs.size + 2, s1.heap.objs.size + 3, s1.heap.objs.size, s1.heap.objs.size + 1] → FpOk X pins H1 c := fun c hc => by
    have le : s1.heap.objs.size ≤ c := by
      simp only [List.mem_cons, List.not_mem_nil, or_false] at hc
      omega
    exact I1.fpOk le (I1.hok.fresh le)
  refine zip_begins2 b1 b2 c1 c2 fun h' hz hTI hTO g1 g2 hsz hk => wpAny_pyIter_zip hz ?_
  have I2 : Inv X pins σ H1 { s1 with heap := h' } := I1.kept (t' := s1.toks) hk
  have D : ZipSep2 (s1.heap.objs.size + 4) (s1.heap.objs.size + 2) (s1.heap.objs.size + 3) s1.heap.objs.size (s1.heap.objs.size + 1) fp1 fp2 :=
    { TIz := (neA (by omega)), TOz := (neA (by omega)), TITO := (neA (by omega)), TIi1 := (neA (by omega)), mem1 := e1, zf1 := x1 _ (by omega) ((neA (by omega))), Tf1 := x1 _ (by omega) ((neA (by omega))), TIi2 := (neA (by omega)), mem2 := e2',
      zf2 := x2 _ (by omega) ((neA (by omega))), Tf2 := x2 _ (by omega) ((neA (by omega))), sep1_2 := x2 _ (by omega) ((neA (by omega))), sep2_1 := x1 _ (by omega) ((neA (by omega))) }
  exact ⟨s1.heap.objs.size + 4, [s1.heap.objs.size + 4, s1.heap.objs.size + 2, s1.heap.objs.size + 3, s1.heap.objs.size, s1.heap.objs.size + 1], _, _, H1, rfl, I2, turn_zipG D A1 A2, ⟨hz, hTI, ⟨_, _, hTO⟩, t1 h' g1, t2 h' g2⟩, fresh, q⟩
end L2

/-! enumerate over what never changes; rules of which one serves -/
namespace L2
open PySem PySem.Spec PyProof.Rows
theorem pi_or {X : Cx} {tg it : Expr} {u v : TI} (h1 : PI X tg it u) (h2 : PI X tg it v) : PI X tg it (fun σ H R => u σ H R ∨ v σ H R) :=
  ⟨fun pins s σ H R I h => h.elim (h1.run pins s σ H R I) (h2.run pins s σ H R I)⟩
theorem callR_or {X : Cx} {f : Value} {u v : List V → Hp → VK → Prop} (h1 : CallR X f u) (h2 : CallR X f v) : CallR X f (fun xs H Q => u xs H Q ∨ v xs H Q) :=
  fun pins s σ H xs us Q I r h => h.elim (h1 pins s σ H xs us Q I r) (h2 pins s σ H xs us Q I r)
theorem meets_enum1 {v : Value} {o : Obj} {B : Heap → Prop} (G : Begins v o B) :
    Meets (Builtin.«enumerate.__new__» ⟨[.type "enumerate", v], []⟩) (fun _ R s => B s.heap ∧
      R (.ok (.ret (.ref (s.heap.push o).objs.size))) { s with heap := (s.heap.push o).push { cls := .type "enumerate", data := .fields #[.none, .bool false, .ref s.heap.objs.size, rawInt 0, .none, .none] } }) :=
  .of_wp fun prog w A R s ⟨b1, q⟩ => by
    obtain ⟨hp, gs, dr, tk, os⟩ := s
    have sub := sub_enumerate
    have it1 : ∀ {A' : Around} {E : Value → Shared → Prop} {Q : Value → Shared → Prop}, Q (.ref hp.objs.size) ⟨hp.push o, gs, dr, tk, os⟩ → wpAny (model prog w) A' (pyIter v) Q E ⟨hp, gs, dr, tk, os⟩ :=
      fun y => G.iter prog w _ _ ⟨hp, gs, dr, tk, os⟩ _ b1 y
    wp_walk using it1
    refine wpAny_stack_any fun st => wpAny_pure ?_
    split
    · rename_i c _ _ _ _ _
      cases (c == Value.type "enumerate") <;> (wp_walk using it1; exact ⟨_, rfl, q⟩)
    · wp_walk using it1
      exact ⟨_, rfl, q⟩
def ItnG (n : Nat) (hold : Hp → Prop) (m : Nat → V → Prop) : It :=
  ⟨fun i H => i < n ∧ hold H, fun i H v H' => ∃ T x, v = .ref T ∧ H T = none ∧ H' = upd H T (.tup [.int (i : Nat), x]) ∧ m i x, fun i H => i = n ∧ hold H⟩
theorem turn_enumG {P : Program} {w : World} {K : PySem.W.Frag} {e i : Addr} {fp : List Addr} {n : Nat} {Pv : Nat → Value → Prop} {It So : Nat → Heap → Prop} {hold : Hp → Prop} {m : Nat → V → Prop} {elts : List Expr} {kk : Nat} {tpos : Pos}
    (ne : e ≠ i) (nf : e ∉ fp) (A1 : Side P w K i fp n Pv It So hold m) :
    Turn P w K (.Tuple elts kk tpos) (ItnG n hold m) [e, i] e (fun k h => (∃ old, IsEnum h e i ((k : Nat) : Int) old) ∧ It k h) where
  mem := List.mem_cons_self
  obj := fun k h ⟨⟨old, a1⟩, a2⟩ c hc => by
    simp only [List.mem_cons, List.not_mem_nil, or_false] at hc
    rcases hc with rfl | rfl
    · exact ⟨_, a1, fun _ q => nomatch q⟩
    · exact A1.cell k h a2
  keep := fun k h h' ⟨⟨old, a1⟩, a2⟩ kp => ⟨⟨old, kp e (by simp) _ a1⟩, A1.at_ k h h' a2 fun o => kp i (by simp) o⟩
  item := by
    intro X hP hw hK hc k pins s σ H E I hf ⟨⟨old, a1⟩, a2⟩ ⟨l1, g1⟩
    subst hP hw
    have el : e < s.heap.objs.size := Heap.lt_size a1
    refine wpAny_pyNext_enum_itemD (A1.dr _ (I.ok.hd hc)) a1 ⟨a2, A1.so X pins σ H s k hK I g1⟩ l1 ne nf fun u h' tk p1 b1 b2 b3 b4 kp => ?_
    obtain ⟨x, mx, rx⟩ := A1.rel X pins σ H s k u hK I g1 p1
    refine ⟨_, rfl, wpAny_letOwnedTupleGo_enum (s := { s with heap := h', toks := tk + 1 }) b1 fun h'' b1' sb => ?_⟩
    have tup : h''.get? s.heap.objs.size = some { cls := .type "tuple", data := .seq #[.int k tk, u] } := (sb.2 _ (Nat.ne_of_gt el)).trans b3
    have new : ObjOk X.prog X.w (upd H s.heap.objs.size (.tup [.int (k : Nat), x])) h'' s.heap.objs.size (.tup [.int (k : Nat), x]) :=
      ⟨by show 2 ≤ sizeLine; decide, [.int k tk, u], .cons ⟨_, rfl⟩ (.cons rx .nil), ⟨_, tup, rfl, _, rfl⟩⟩
    have J : Inv X pins σ (upd H s.heap.objs.size (.tup [.int (k : Nat), x])) { s with heap := h'', toks := tk + 1 } :=
      I.turnedNew (t' := tk + 1) (ch := [e, i]) (fun c o nb q => by
        simp only [List.mem_cons, List.not_mem_nil, or_false, not_or] at nb
        exact (sb.2 c nb.1).trans (kp c o nb.1 nb.2 q)) hf (Nat.le_refl _) new
    refine ⟨.ref s.heap.objs.size, _, J, rfl, ⟨_, x, rfl, I.hok.fresh (Nat.le_refl _), rfl, mx⟩, ⟨⟨u, ?_⟩, A1.at_ _ _ _ b2.1 fun o q => (sb.2 _ (Ne.symm ne)).trans q⟩, fun c hcm => ?_⟩
    · have z : ((k + 1 : Nat) : Int) = (k : Int) + 1 := by omega
      rw [z]
      exact b1'
    · have lt : c < s.heap.objs.size := by
        simp only [List.mem_cons, List.not_mem_nil, or_false] at hcm
        rcases hcm with rfl | rfl
        · exact el
        · obtain ⟨_, q, _⟩ := A1.cell k _ a2
          exact Heap.lt_size q
      rw [upd_ne (Nat.ne_of_lt lt)]
      exact (hf c hcm).1
  done := by
    intro X hP hw hK hc k pins s σ H E I hf ⟨⟨old, a1⟩, a2⟩ ⟨l1, g1⟩
    subst hP hw l1
    exact wpAny_pyNext_enum_endD (A1.dr _ (I.ok.hd hc)) a1 ⟨a2, A1.so X pins σ H s k hK I g1⟩ fun h' eb =>
      ⟨rfl, I.turnedL (t' := s.toks) (ch := [e, i]) (fun c o nb q => by
        simp only [List.mem_cons, List.not_mem_nil, or_false, not_or] at nb
        exact eb c o nb.2 q) hf⟩
  self := fun A k s Q E st h => let ⟨⟨_, a1⟩, _⟩ := st; wpAny_pyIter_enum a1 h
def iEnumM (K : PySem.W.Frag) (ta : TA) : TI := fun σ H R => ta σ H fun vs H1 => ∃ (v : V) (n : Nat) (hold : Hp → Prop) (m : Nat → V → Prop), vs = [v] ∧ Zs K H1 v n hold m ∧ R (ItnG n hold m) H1
theorem pi_enumM {X : Cx} {e : Expr} {ta : TA} {p pos tpos : Pos} {elts : List Expr} {kk : Nat} (hg : Gl X "enumerate") (hm : X.mg "enumerate" = none) (ha : PA X [e] ta) (hs : starEach [e] X.env = [(false, eval e X.env)] := by rfl) :
    PI X (.Tuple elts kk tpos) (.Call (.Name "enumerate" p) [e] [] pos) (iEnumM X.K ta) := by
  refine ⟨fun pins s σ H R I h => Call_ (ld_blt I hg hm boot_enumerate (PyProof.Rows.callWith_type1 (thn (ha.run pos pins s σ H _ I h) fun us s1 ⟨vs, H1, I1, r1, q1⟩ => ?_) hs rfl))⟩
  obtain ⟨v, n, hold, m, ex, Z, q⟩ := q1
  subst ex
  obtain ⟨u, rfl, ru⟩ := vals1 r1
  obtain ⟨o, B, b1, c1, k1, f1⟩ := zs_side Z ru I1
  obtain ⟨fp, Pv, It, So, A1, e1, x1, t1⟩ := f1 s1.heap.objs.size (Nat.le_refl _)
  refine callType_new F.called_enumerate (by decide) (F.typeCall_enumerate_1 _) (F.newCall_enumerate_1 _) (fun obj => F.args_object_init_2 obj _) F.entry_enumerate_new (meets_enum1 b1) ⟨c1, ?_⟩
  have z1 : (s1.heap.push o).objs.size = s1.heap.objs.size + 1 := Heap.size_push ..
  show _ ∧ _
  rw [z1]
  have he : IsEnum ((s1.heap.push o).push { cls := .type "enumerate", data := .fields #[.none, .bool false, .ref s1.heap.objs.size, rawInt 0, .none, .none] }) (s1.heap.objs.size + 1) s1.heap.objs.size 0 .none := by
    have y := Heap.get?_push_size (s1.heap.push o) (o := { cls := .type "enumerate", data := .fields #[.none, .bool false, .ref s1.heap.objs.size, rawInt 0, .none, .none] }) rfl
    rw [z1] at y
    exact y
  refine ⟨⟨_, he, rfl⟩, wpAny_pyIter_enum he ?_⟩
  have I2 : Inv X pins σ H1 { s1 with heap := (s1.heap.push o).push { cls := .type "enumerate", data := .fields #[.none, .bool false, .ref s1.heap.objs.size, rawInt 0, .none, .none] } } :=
    I1.kept (t' := s1.toks) fun c o' q => Heap.get?_push_of_some _ (Heap.get?_push_of_some _ q)
  refine ⟨s1.heap.objs.size + 1, [s1.heap.objs.size + 1, s1.heap.objs.size], _, _, H1, rfl, I2, turn_enumG (Nat.succ_ne_self _) (x1 _ (Nat.le_succ _) (Nat.succ_ne_self _)) A1, ⟨⟨_, he⟩, t1 _ (Heap.get?_push_of_some _ (Heap.get?_push_size _ b1.free))⟩, fun c hc => ?_, q⟩
  have le : s1.heap.objs.size ≤ c := by
    have hc2 : c = s1.heap.objs.size + 1 ∨ c = s1.heap.objs.size := by simpa using hc
    rcases hc2 with q2 | q2
    · rw [q2]
      exact Nat.le_succ _
    · rw [q2]
      exact Nat.le_refl _
  exact I1.fpOk le (I1.hok.fresh le)
end L2

/-! numbers, indexes, lists of goals -/
namespace K03
open PySem L2 Evl OxK
/-- a number from 0 to n - 1 -/
def isIx : V → Int → Bool
  | .int i, n => decide (0 ≤ i) && decide (i < n)
  | _, _ => false
def spNum (K : PySem.W.Frag) : Sp := fun vs H Q _ => ∃ (v : V) (T : String), vs = [v] ∧ Kn K H v T ∧ ∀ H', Ex H H' → Q (.bl (decide (T = "int"))) H'
def spIdx (K : PySem.W.Frag) : Sp := fun vs H Q _ => ∃ (v : V) (n : Int), vs = [v, .int n] ∧ Flat v ∧ ∀ H', Ex H H' → Q (.bl (isIx v n)) H'
def spLst (K : PySem.W.Frag) : Sp := fun vs H Q _ => ∃ (v : V) (T : String), vs = [v] ∧ Kn K H v T ∧ ∀ H', Ex H H' → Q (.bl (isB T "list" || isB T "tuple")) H'
section
variable {P : Program} {w : World} {K : PySem.W.Frag} {mg : Str → Option Value} {base : Heap} {f : Addr} {fd : FuncData}
theorem scN : FnScope ["value"] ["value"] (defScope sNum) := ⟨rfl, rfl, rfl, by decide +kernel, rfl, by decide +kernel, by decide +kernel⟩
theorem ok_num (F : FnP K "is_number" sNum f fd) (T : NoS mg) : FnOk P w K mg base CX0 1 f fd ["value"] (spNum K) := by
  refine F.ok scN (fun vs H Q E h => ?_) (fun cdv A outer s H vs Q E hr h => ?_)
  · obtain ⟨v, T, rfl, _⟩ := h
    rfl
  · obtain ⟨v, Tv, rfl, kv, k⟩ := h
    refine ⟨_, PSs.nox (pss_one (ps_ret (pe_and (pe_callB call_isi (by rfl) T.b.isi PyProof.Rows.boot_isinstance (pa_cons (pv 0) (pa_cons (pe_bltn (v := .ty "int") (by rfl) T.int (by decide +kernel) rfl) pa_nil)))
      (pe_one (pe_not (pe_callB call_isi (by rfl) T.b.isi PyProof.Rows.boot_isinstance (pa_cons (pv 0) (pa_cons (pe_bltn (v := .ty "bool") (by rfl) T.bool (by decide +kernel) rfl) pa_nil)))))))), ?_⟩
    refine s_ret (ev_is (ev_andV (ev_isi (ev_var rfl) kv) (fun _ => ev_notV (ev_isi (ev_var rfl) kv))) (congrArg V.bl ?_)) fun H' e => k H' e
    have z : ∀ S ∈ six, (isB S "int" && !isB S "bool") = decide (S = "int") := by decide
    exact z Tv kv.six
theorem scX : FnScope ["value", "size"] ["value", "size"] (defScope sIdx) := ⟨rfl, rfl, rfl, by decide +kernel, rfl, by decide +kernel, by decide +kernel⟩
theorem ok_idx {fN : Addr} {fdN : FuncData} (F : FnP K "is_index" sIdx f fd) (FN : FnP K "is_number" sNum fN fdN) (T : NoS mg) (gN : mg "is_number" = some (.ref fN)) : FnOk P w K mg base CX0 2 f fd ["value", "size"] (spIdx K) := by
  have GN : FnOk P w K mg base CX0 1 fN fdN ["value"] (spNum K) := ok_num FN T
  have bN : Binds K fdN ["value"] [] := FN.bindsN fun _ _ _ _ _ _ us hl => match us, hl with | [_], _ => rfl
  refine F.ok scX (fun vs H Q E h => ?_) (fun cdv A outer s H vs Q E hr h => ?_)
  · obtain ⟨v, n, rfl, _⟩ := h
    rfl
  · obtain ⟨v, n, rfl, fv, k⟩ := h
    refine ⟨_, PSs.nox (pss_one (ps_ret (pe_and (pe_call GN hr rfl gN FN.kp bN .nil pass0 (pa_cons (pv 0) pa_nil)) (pe_one (pe_chain op_le op_lt pe_int (pv 0) (pv 1)))))), ?_⟩
    refine ⟨_, rfl, v, tyF v, rfl, kn_flat fv, fun H1 e1 => ⟨_, rfl, ?_⟩⟩
    cases v with
    | int i =>
      refine iteT ⟨_, rfl, _, _, rfl, rfl, _, rfl, ?_⟩
      refine ite2 (fun h0 => ⟨_, rfl, _, _, rfl, rfl, ?_⟩) (fun h0 => ?_)
      · have z : Q (V.bl (decide (0 ≤ i) && decide (i < n))) H1 := k H1 e1
        rw [h0, Bool.true_and] at z
        exact z
      · have z : Q (V.bl (decide (0 ≤ i) && decide (i < n))) H1 := k H1 e1
        rw [Bool.eq_false_iff.mpr h0, Bool.false_and] at z
        exact z
    | _ => first | exact fv.elim | exact k H1 e1
theorem scL : FnScope ["value"] ["value"] (defScope sLst) := ⟨rfl, rfl, rfl, by decide +kernel, rfl, by decide +kernel, by decide +kernel⟩
theorem ok_lst (F : FnP K "is_list" sLst f fd) (T : NoS mg) : FnOk P w K mg base CX0 1 f fd ["value"] (spLst K) := by
  refine F.ok scL (fun vs H Q E h => ?_) (fun cdv A outer s H vs Q E hr h => ?_)
  · obtain ⟨v, T, rfl, _⟩ := h
    rfl
  · obtain ⟨v, Tv, rfl, kv, k⟩ := h
    refine ⟨_, PSs.nox (pss_one (ps_ret (pe_callB call_isiT (by rfl) T.b.isi PyProof.Rows.boot_isinstance (pa_cons (pv 0) (pa_cons (pe_tup (pa_cons (pe_bltn (v := .ty "list") (by rfl) T.b.lst PyProof.Rows.boot_list rfl) (pa_cons (pe_bltn (v := .ty "tuple") (by rfl) T.b.tup PyProof.Rows.boot_tuple rfl) pa_nil))) pa_nil))))), ?_⟩
    refine ⟨_, rfl, (by show 2 ≤ sizeLine; decide), fun p hp => ⟨v, p, _, _, [.type "list", .type "tuple"], isB Tv "list" || isB Tv "tuple", rfl, upd_same, .cons (.ty _) (.cons (.ty _) .nil), kv.ty _ (Ex.new hp), ?_, k _ (Ex.new hp)⟩⟩
    have h1 : PySem.W.kitOne K (.type Tv) (.type "list") = some (isB Tv "list") := kit_ty (kit_six Tv kv.six "list" (by decide))
    have h2 : PySem.W.kitOne K (.type Tv) (.type "tuple") = some (isB Tv "tuple") := kit_ty (kit_six Tv kv.six "tuple" (by decide))
    refine kitAny_cons h1 (fun q => ?_) (fun q => by rw [q]; rfl)
    rw [q, Bool.false_or]
    exact kitAny_cons h2 (fun q2 => by rw [q2]; exact kitAny_nil) (fun q2 => q2)
theorem scG : FnScope ["value", "letters", "states", "goal"] ["value", "letters", "states"] (defScope sGls) := ⟨rfl, rfl, rfl, by decide +kernel, rfl, by decide +kernel, by decide +kernel⟩
def spGls (K : PySem.W.Frag) : Sp := fun vs H Q _ => ∃ (v : V) (L n : Int), vs = [v, .int L, .int n] ∧ ((Flat v ∧ ∀ H', Ex H H' → Q (.bl false) H') ∨
  ∃ (a : Addr) (xs : List V), v = .ref a ∧ (H a = some (.lst xs) ∨ H a = some (.tup xs)) ∧ (∀ x ∈ xs, Flat x) ∧ xs.length ≤ 1000 ∧ ∀ H', Ex H H' → Q (.bl (decide ((xs.length : Int) = L) && xs.all fun x => isIx x n)) H')
theorem ok_gls {fN fX fL : Addr} {fdN fdX fdL : FuncData} (F : FnP K "is_goals" sGls f fd) (FX : FnP K "is_index" sIdx fX fdX) (FN : FnP K "is_number" sNum fN fdN) (FL : FnP K "is_list" sLst fL fdL) (T : NoS mg) (gN : mg "is_number" = some (.ref fN))
    (gX : mg "is_index" = some (.ref fX)) (gL : mg "is_list" = some (.ref fL)) : FnOk P w K mg base CX0 3 f fd ["value", "letters", "states"] (spGls K) := by
  have GX : FnOk P w K mg base CX0 2 fX fdX ["value", "size"] (spIdx K) := ok_idx FX FN T gN
  have GL : FnOk P w K mg base CX0 1 fL fdL ["value"] (spLst K) := ok_lst FL T
  have bX : Binds K fdX ["value", "size"] [] := FX.bindsN fun _ _ _ _ _ _ us hl => match us, hl with | [_, _], _ => rfl
  have bL : Binds K fdL ["value"] [] := FL.bindsN fun _ _ _ _ _ _ us hl => match us, hl with | [_], _ => rfl
  refine F.ok scG (fun vs H Q E h => ?_) (fun cdv A outer s H vs Q E hr h => ?_)
  · obtain ⟨v, L, n, rfl, _⟩ := h
    rfl
  · obtain ⟨v, L, n, rfl, h⟩ := h
    refine ⟨_, PSs.nox (pss_one (ps_ret (pe_and (pe_call GL (hr.mono (by decide)) rfl gL FL.kp bL .nil pass0 (pa_cons (pv 0) pa_nil)) (pe_and (pe_cmpR op_eq (pe_callB call_len_seq (by rfl) T.len PySem.boot_len (pa_cons (pv 0) pa_nil)) (pv 1) (nomark _))
      (pe_one (pe_callB (cr_all rfl) (by rfl) T.all PyProof.Rows.boot_all (pa_cons (pe_lc (own := [("goal", 3)]) (g := gName 3) (tt := tYes) (by rfl) scG.nd (pi_or (pi_list (pv 0)) (pi_tup (pv 0))) (blkOk_by (own := [("goal", 3)]) (N := ["value", "letters", "states", "goal"]) (sc := defScope sGls) (by decide +kernel))
        (fun _ _ _ _ _ => pg_name (i := 3) scG.nd rfl (Or.inl rfl)) (fun _ _ _ _ _ => pts_nil) (fun _ _ _ _ _ => pe_call GX (hr.mono (by decide)) rfl gX FX.kp bX .nil pass0 (pa_cons (pv 3) (pa_cons (pv 2) pa_nil)))) pa_nil))))))), ?_⟩
    rcases h with ⟨fv, k⟩ | ⟨a, xs, rfl, ha, fl, few, k⟩
    · have hb : (isB (tyF v) "list" || isB (tyF v) "tuple") = false := by cases v <;> first | exact fv.elim | rfl
      refine ⟨_, rfl, v, tyF v, rfl, kn_flat fv, fun H1 e1 => ⟨_, rfl, ?_⟩⟩
      rw [hb]
      exact iteF (k H1 e1)
    · have hk : ∃ T, Kn K H (.ref a) T ∧ (isB T "list" || isB T "tuple") = true := by
        rcases ha with ha | ha
        · exact ⟨_, kn_lst ha, rfl⟩
        · exact ⟨_, kn_tup ha, rfl⟩
      obtain ⟨Tv, kv, hb⟩ := hk
      refine ⟨_, rfl, .ref a, Tv, rfl, kv, fun H1 e1 => ⟨_, rfl, ?_⟩⟩
      rw [hb]
      refine iteT ?_
      have hs : SqL K H1 a xs ∨ SqT K H1 a xs := by
        rcases ha with ha | ha
        · exact .inl (SqL.of (e1 _ _ ha))
        · exact .inr (SqT.of (e1 _ _ ha))
      refine ⟨_, rfl, a, xs, rfl, hs, _, rfl, rfl, _, rfl, ?_⟩
      by_cases hlen : (xs.length : Int) = L
      · have z1 : decide (V.int (xs.length : Int) = V.int L) = true := decide_eq_true (by rw [hlen])
        rw [z1]
        refine iteT ?_
        rw [decide_eq_true hlen, ] at k
        simp only [Bool.true_and] at k
        have x3 : Ex H H1 := e1
        obtain ⟨H3, eH⟩ : ∃ H3, H3 = H1 := ⟨_, rfl⟩
        subst eH
        rcases ha with ha | ha
        · refine .inl ⟨_, rfl, a, rfl, ⟨_, SqL.of (x3 _ _ ha)⟩, fun D hD => lc_list (K := K) (a := a) (xs := xs) (fun i H' => Ex H3 H' ∧ H' D = some (.lst ((xs.take i).map fun x => V.bl (isIx x n)))) ⟨Ex.new hD, upd_same⟩ ?_ ?_ ?_⟩
          · rintro i H' hi ⟨e4, _⟩
            exact SqL.of ((x3.trans e4) _ _ ha)
          · rintro i x H' hx ⟨e4, hD'⟩
            refine ⟨rfl, ?_⟩
            refine tt_yes ?_
            have hi : i < xs.length := (List.getElem?_eq_some_iff.mp hx).1
            refine ⟨_, rfl, _, rfl, x, n, rfl, fl x (List.mem_of_getElem? hx), fun H5 e5 => ?_⟩
            refine ⟨_, e5 _ _ hD', small1000 (by rw [List.length_map, List.length_take]; omega), Ex.mut (e4.trans e5) hD, ?_⟩
            rw [upd_same, List.take_add_one, hx, List.map_append]
            rfl
          · rintro H' ⟨e4, hD'⟩
            rw [List.take_length] at hD'
            refine ⟨D, xs.map fun x => isIx x n, rfl, SqL.of (by rw [hD', List.map_map]; rfl), ?_⟩
            rw [List.all_map]
            exact k H' (x3.trans e4)
        · refine .inr ⟨_, rfl, a, rfl, ⟨_, SqT.of (x3 _ _ ha)⟩, fun D hD => lc_tup (K := K) (a := a) (xs := xs) (fun i H' => Ex H3 H' ∧ H' D = some (.lst ((xs.take i).map fun x => V.bl (isIx x n)))) ⟨Ex.new hD, upd_same⟩ ?_ ?_ ?_⟩
          · rintro i H' hi ⟨e4, _⟩
            exact SqT.of ((x3.trans e4) _ _ ha)
          · rintro i x H' hx ⟨e4, hD'⟩
            refine ⟨rfl, ?_⟩
            refine tt_yes ?_
            have hi : i < xs.length := (List.getElem?_eq_some_iff.mp hx).1
            refine ⟨_, rfl, _, rfl, x, n, rfl, fl x (List.mem_of_getElem? hx), fun H5 e5 => ?_⟩
            refine ⟨_, e5 _ _ hD', small1000 (by rw [List.length_map, List.length_take]; omega), Ex.mut (e4.trans e5) hD, ?_⟩
            rw [upd_same, List.take_add_one, hx, List.map_append]
            rfl
          · rintro H' ⟨e4, hD'⟩
            rw [List.take_length] at hD'
            refine ⟨D, xs.map fun x => isIx x n, rfl, SqL.of (by rw [hD', List.map_map]; rfl), ?_⟩
            rw [List.all_map]
            exact k H' (x3.trans e4)

      · have z1 : decide (V.int (xs.length : Int) = V.int L) = false := decide_eq_false fun q => hlen (V.int.inj q)
        rw [z1]
        refine iteF ?_
        have z := k H1 e1
        rw [decide_eq_false hlen, Bool.false_and] at z
        exact z
end
end K03

/-! alphabets -/
namespace K03
open PySem L2 Evl OxK
/-- the signs of a text -/
def sg (x : Str) : List Nat := x.cps.toList
structure AlphaOk (x : Str) : Prop where
  one : 1 ≤ (sg x).length
  three : (sg x).length ≤ 3
  climbs : ∀ k a b, (sg x)[k]? = some a → (sg x)[k + 1]? = some b → a < b
  low : ∀ c ∈ sg x, 97 ≤ c ∧ c ≤ 122
theorem cut_tail (x : Str) (h : 1 ≤ x.length) : (cutS x (some 1) none).cps.toList = (sg x).drop 1 := by
  have hl : x.length = (sg x).length := by simp [Str.length, sg]
  unfold cutS
  have e : HT.sIx x.length 0 (some ((1 : Nat) : Int)) = min 1 x.length := HT.sIx_nat _ _ 1
  have e1 : HT.sIx x.length 0 (some 1) = 1 := by
    have z : HT.sIx x.length 0 (some 1) = min 1 x.length := e
    omega
  have e2 : HT.sIx x.length x.length none = x.length := rfl
  rw [e1, e2]
  show ((sg x).drop 1).take (x.length - 1) = (sg x).drop 1
  rw [List.take_of_length_le]
  rw [List.length_drop]
  omega
def spAlp : Sp := fun vs H Q _ => ∃ x : Str, vs = [.str x] ∧ AlphaOk x ∧ ∀ H', Ex H H' → Q (.bl true) H'
section
variable {P : Program} {w : World} {K : PySem.W.Frag} {mg : Str → Option Value} {base : Heap} {f : Addr} {fd : FuncData}
theorem ev_allT0 {K : PySem.W.Frag} {σ : L2.St} {H : Hp} {te : TE} {n : Nat} (h : EvL te σ H ((List.range n).map fun _ => V.bl true)) : Ev (tCB (rAll K) (tCons te tNil)) σ H (.bl true) := fun H1 e Q q =>
  h H1 e _ fun p H2 _ e2 h2 => ⟨p, (List.range n).map fun _ => true, rfl, SqL.of (by rw [h2, List.map_map]; rfl), by
    have z : ((List.range n).map fun _ => true).all id = true := by simp
    rw [z]
    exact q H2 e2⟩
theorem lc_true {K : PySem.W.Frag} {J : It} {n : Nat} {g : TG} {te : TE} {vs : List Nat} {σ : L2.St} {H1 : Hp} {D : Addr} {Q : VK} (hD : H1 D = none) (hn : n ≤ 1000) (hgo : ∀ i H, Ex H1 H → i < n → J.go i H) (hst : ∀ H, Ex H1 H → J.stop n H)
    (hs : ∀ i H x H', Ex H1 H → i < n → J.yld i H x H' → Ex H H' ∧ g x (wipe σ vs) H' fun σ2 H2 => wipe σ2 vs = wipe σ vs ∧ H2 = H' ∧ ∀ Q2 : VK, Q2 (.bl true) H2 → te σ2 H2 Q2)
    (hg : ∀ (x : V) (τ : L2.St) (H : Hp) (A B : L2.St → Hp → Prop), (∀ τ' H', A τ' H' → B τ' H') → g x τ H A → g x τ H B) (q : ∀ H, Ex H1 H → H D = some (.lst ((List.range n).map fun _ => V.bl true)) → Q (.ref D) H) :
    ∃ W : Nat → Nat → Hp → Prop, (∃ m, W 0 m (upd H1 D (.lst []))) ∧ ∀ i m H, W i m H →
      (J.stop i H ∧ Q (.ref D) H) ∨ (J.go i H ∧ ∃ Nx : Hp → Prop, (∀ H', Nx H' → ∃ m', m' < m ∧ W (i + 1) m' H') ∧ ∀ x H', J.yld i H x H' → g x (wipe σ vs) H' fun σ2 H2 => wipe σ2 vs = wipe σ vs ∧ tYes σ2 H2 fun b H3 =>
        if b = true then te σ2 H3 fun y H4 => ∃ acc, H4 D = some (.lst acc) ∧ acc.length < sizeLine ∧ Nx (upd H4 D (.lst (acc ++ [y]))) else Nx H3) := by
  refine lc_any (J := J) (n := n) (fun i H => Ex H1 H ∧ H D = some (.lst ((List.range i).map fun _ => V.bl true))) ⟨Ex.new hD, upd_same⟩ (fun i H hi p => hgo i H p.1 hi) (fun H p => hst H p.1) (fun i H x H' hi p y => ?_) (fun H p => q H p.1 p.2)
  obtain ⟨e, z⟩ := hs i H x H' p.1 hi y
  refine hg _ _ _ _ _ (fun τ H2 ⟨h1, h2, h3⟩ => ⟨h1, tt_yes (h3 _ ?_)⟩) z
  subst h2
  refine ⟨_, e _ _ p.2, small1000 (by rw [List.length_map, List.length_range]; omega), Ex.mut (p.1.trans e) hD, ?_⟩
  rw [upd_same, List.range_succ, List.map_append]
  rfl
theorem g_name_mono (j : Nat) : ∀ (x : V) (τ : L2.St) (H : Hp) (A B : L2.St → Hp → Prop), (∀ τ' H', A τ' H' → B τ' H') → gName j x τ H A → gName j x τ H B := fun _ _ _ _ _ h z => h _ _ z
theorem g_two_mono {K : PySem.W.Frag} (i j : Nat) : ∀ (x : V) (τ : L2.St) (H : Hp) (A B : L2.St → Hp → Prop), (∀ τ' H', A τ' H' → B τ' H') → gTup K 2 (gCons (gName i) (gCons (gName j) gNil)) x τ H A → gTup K 2 (gCons (gName i) (gCons (gName j) gNil)) x τ H B :=
  fun _ _ _ _ _ h ⟨a, xs, r, s, l, v, r1, e1, v2, r2, e2, e3, z⟩ => ⟨a, xs, r, s, l, v, r1, e1, v2, r2, e2, e3, h _ _ z⟩
theorem scCl : FnScope ["items", "low", "high"] ["items"] (defScope sClb) := ⟨rfl, rfl, rfl, by decide +kernel, rfl, by decide +kernel, by decide +kernel⟩
theorem ok_clb (F : FnP K "climbs" sClb f fd) (T : NoS mg) : FnOk P w K mg base CX0 1 f fd ["items"] spAlp := by
  refine F.ok scCl (fun vs H Q E h => ?_) (fun cdv A outer s H vs Q E hr h => ?_)
  · obtain ⟨x, rfl, _⟩ := h
    rfl
  · obtain ⟨x, rfl, ax, k⟩ := h
    refine ⟨_, PSs.nox (pss_one (ps_ret (pe_callB (cr_all rfl) (by rfl) T.all PyProof.Rows.boot_all (pa_cons (pe_lc (own := [("low", 1), ("high", 2)]) (g := gTup K 2 (gCons (gName 1) (gCons (gName 2) gNil))) (tt := tYes) (by rfl) scCl.nd (pi_zipM (by rfl) T.zip (pa_cons (pv 0) (pa_cons (pe_slice sl_str (pv 0) (po_some pe_int) po_none) pa_nil)))
          (blkOk_by (own := [("low", 1), ("high", 2)]) (N := ["items", "low", "high"]) (sc := defScope sClb) (by decide +kernel))
          (fun _ _ _ _ _ => pg_tup (by rfl) (pgs_cons (pg_name (i := 1) scCl.nd rfl (Or.inl rfl)) (pgs_cons (pg_name (i := 2) scCl.nd rfl (Or.inl rfl)) pgs_nil))) (fun _ _ _ _ _ => pts_nil) (fun _ _ _ _ _ => pe_cmpR op_lt_str (pv 1) (pv 2) (nomark _))) pa_nil)))), ?_⟩
    have hl : x.length = (sg x).length := by simp [Str.length, sg]
    have l1 : 1 ≤ x.length := by rw [hl]; exact ax.one
    have l3 : x.length ≤ 3 := by rw [hl]; exact ax.three
    have hzip : EvL (tLc (iZipM K (tCons (tVar 0) (tCons (tSl rSlS (tVar 0) (tPart (tC (.int 1))) tNoPart) tNil))) (gTup K 2 (gCons (gName 1) (gCons (gName 2) gNil))) tYes (tOp (fun x y H Q => ∃ i j, x = .str i ∧ y = .str j ∧ Q (.bl (decide (i.cps.toList < j.cps.toList))) H) (tVar 1) (tVar 2)) [1, 2])
        (L2.start ["items", "low", "high"] [V.str x]) H ((List.range (x.length - 1)).map fun _ => V.bl true) := by
      intro H2 e2 Q2 q2
      refine ⟨_, rfl, _, rfl, 1, rfl, x, rfl, Nat.le_trans l3 (by decide), ?_⟩
      have c2 : (cutS x (some 1) none).cps.size = x.length - 1 := by
        have z := congrArg List.length (cut_tail x l1)
        rw [List.length_drop, ← hl] at z
        simpa using z
      refine ⟨_, _, _, _, _, _, _, _, rfl, .txt x, .txt _, fun D hD => ?_⟩
      refine lc_true (K := K) (n := x.length - 1) hD (by omega) (fun i H3 _ hi => ⟨by show i < x.length; omega, by rw [c2]; exact hi, True.intro, True.intro⟩) (fun H3 _ => ⟨by show x.length - 1 ≤ x.length; omega, by rw [c2]; exact Nat.le_refl _, .inr c2.symm, True.intro, True.intro⟩) (fun i H3 y H4 e3 hi ⟨T', a, b, r, hT, r2, ⟨ca, ha, ra⟩, ⟨cb, hb, rb⟩⟩ => ?_) (g_two_mono 1 2) (fun H3 e3 h3 => q2 D H3 (by exact hD) e3 h3)
      subst r r2 ra rb
      refine ⟨Ex.new hT, T', _, rfl, SqT.of upd_same, rfl, _, _, rfl, _, _, rfl, rfl, rfl, rfl, fun Q3 q3 => ⟨_, rfl, _, rfl, _, _, rfl, rfl, ?_⟩⟩
      have h1 : (sg x)[i]? = some ca := by simpa [sg] using ha
      have h2 : (sg x)[i + 1]? = some cb := by
        have z : (cutS x (some 1) none).cps.toList[i]? = some cb := by simpa using hb
        rw [cut_tail x l1, List.getElem?_drop, Nat.add_comm] at z
        exact z
      have lt := ax.climbs i ca cb h1 h2
      have z : decide (([ca] : List Nat) < [cb]) = true := decide_eq_true (List.Lex.rel lt)
      show Q3 (.bl (decide (([ca] : List Nat) < [cb]))) _
      rw [z]
      exact q3
    exact s_ret (ev_is (ev_allT0 hzip) rfl) fun H2 e2 => k H2 e2
theorem scA : FnScope ["value", "letter"] ["value"] (defScope sAlp) := ⟨rfl, rfl, rfl, by decide +kernel, rfl, by decide +kernel, by decide +kernel⟩
theorem ok_alp {fB : Addr} {fdB : FuncData} (F : FnP K "is_alphabet" sAlp f fd) (FB : FnP K "climbs" sClb fB fdB) (gB : mg "climbs" = some (.ref fB)) (T : NoS mg) (gM : ∃ t, mg "MOST_LETTERS" = some (.int 3 t)) : FnOk P w K mg base CX0 2 f fd ["value"] spAlp := by
  obtain ⟨tM, gM⟩ := gM
  have GB : FnOk P w K mg base CX0 1 fB fdB ["items"] spAlp := ok_clb FB T
  have bB : Binds K fdB ["items"] [] := FB.bindsN fun _ _ _ _ _ _ us hl => match us, hl with | [_], _ => rfl
  refine F.ok scA (fun vs H Q E h => ?_) (fun cdv A outer s H vs Q E hr h => ?_)
  · obtain ⟨x, rfl, _⟩ := h
    rfl
  · obtain ⟨x, rfl, ax, k⟩ := h
    refine ⟨_, PSs.nox (pss_cons (ps_if (PW.pt (pw_or (pt_not (pt_val (pe_callB call_isi (by rfl) T.b.isi PyProof.Rows.boot_isinstance (pa_cons (pv 0) (pa_cons (pe_bltn (v := .ty "str") (by rfl) T.str (by decide +kernel) rfl) pa_nil)))))
        (pw_or1 (pt_not (pt_chain op_le op_le pe_int (pe_callB call_len_str (by rfl) T.len PySem.boot_len (pa_cons (pv 0) pa_nil)) (pe_glob (v := .int 3) rfl gM ⟨_, rfl⟩))))))
        (pss_one ps_never) pss_nil)
      (pss_one (ps_ret (pe_and (pe_call GB hr rfl gB FB.kp bB .nil pass0 (pa_cons (pv 0) pa_nil)) (pe_one (pe_callB (cr_all rfl) (by rfl) T.all PyProof.Rows.boot_all (pa_cons (pe_lc (own := [("letter", 1)]) (g := gName 1) (tt := tYes) (by rfl) scA.nd (pi_str (pv 0)) (blkOk_by (own := [("letter", 1)]) (N := ["value", "letter"]) (sc := defScope sAlp) (by decide +kernel))
          (fun _ _ _ _ _ => pg_name (i := 1) scA.nd rfl (Or.inl rfl)) (fun _ _ _ _ _ => pts_nil) (fun _ _ _ _ _ => pe_chain op_le_str op_le_str pe_str (pv 1) pe_str)) pa_nil))))))), ?_⟩
    have hl : x.length = (sg x).length := by simp [Str.length, sg]
    have l1 : 1 ≤ x.length := by rw [hl]; exact ax.one
    have l3 : x.length ≤ 3 := by rw [hl]; exact ax.three
    have kx : Kn K H (.str x) "str" := kn_flat True.intro
    -- it is a text of one to three signs
    refine s_if (b := false) (et_is (et_or (a := false) (b := false) (et_not (a := true) (et_B (ev_isi (ev_var rfl) kx))) (fun _ => et_not (a := true) ?_)) rfl) (fun h => nomatch h) (fun _ H1 e1 => ?_)
    · intro H2 e2 Q2 q2
      refine ⟨_, rfl, x, rfl, Nat.le_trans l3 (by decide), _, _, rfl, rfl, _, rfl, ?_⟩
      have z1 : decide ((1 : Int) ≤ (x.length : Int)) = true := decide_eq_true (by omega)
      have z2 : decide ((x.length : Int) ≤ (3 : Int)) = true := decide_eq_true (by omega)
      rw [z1]
      refine iteT ⟨_, _, rfl, rfl, true, congrArg V.bl z2, ?_⟩
      exact q2 H2 (Ex.refl H2)
    unfold tNext
    dsimp only
    refine s_ret (v := .bl true) (ev_is (ev_andV (a := true) (b := true) ?_ (fun _ => ev_allT0 (n := x.length) ?_)) rfl) fun H3 e3 => k H3 (e1.trans e3)
    · intro H2 e2 Q2 q2
      exact ⟨_, rfl, x, rfl, ax, q2⟩
    intro H3 e3 Q3 q3
    refine ⟨_, rfl, x, rfl, fun D hD => ?_⟩
    refine lc_true (K := K) (J := Its x) (n := x.length) hD (by omega) (fun i H4 _ hi => hi) (fun H4 _ => Nat.le_refl _) (fun i H4 y H5 e4 hi ⟨r, c, hc, ry⟩ => ?_) (g_name_mono 1) (fun H4 e4 h4 => q3 D H4 hD e4 h4)
    subst r ry
    refine ⟨Ex.refl _, rfl, rfl, fun Q4 q4 => ?_⟩
    have hm : c ∈ sg x := by
      have z : (sg x)[i]? = some c := by simpa [sg] using hc
      exact List.mem_of_getElem? z
    obtain ⟨lo, hi2⟩ := ax.low c hm
    have z1 : (!decide (([c] : List Nat) < [97])) = true := by
      have h : ¬ (([c] : List Nat) < [97]) := by
        intro h
        cases h with
        | rel h => omega
        | cons h => cases h
      rw [decide_eq_false h]; rfl
    have z2 : (!decide (([122] : List Nat) < [c])) = true := by
      have h : ¬ (([122] : List Nat) < [c]) := by
        intro h
        cases h with
        | rel h => omega
        | cons h => cases h
      rw [decide_eq_false h]; rfl
    refine ⟨_, rfl, _, _, rfl, rfl, _, rfl, ?_⟩
    show if (!decide (([c] : List Nat) < [97])) then _ else _
    rw [z1]
    refine iteT ?_
    refine ⟨_, _, rfl, rfl, ?_⟩
    show Q4 (.bl (!decide (([122] : List Nat) < [c]))) _
    rw [z2]
    exact q4
end
end K03

/-! an alphabet and a number of states that are in order -/
namespace K03
open PySem L2 Evl OxK
/-- C tells its number of states as 24 -/
def Told24 (K : PySem.W.Frag) (C : Addr) : Prop := ∃ mc u, ClX.CRead K C mc ∧ ClX.CVal K C mc "STATES" (.int 24) u
def spRsh : Sp := fun vs H Q _ => ∃ (x : Str) (n : Int), vs = [.str x, .int n] ∧ AlphaOk x ∧ 1 ≤ n ∧ n ≤ 24 ∧ ∀ H', Ex H H' → Q .non H'
section
variable {P : Program} {w : World} {K : PySem.W.Frag} {mg : Str → Option Value} {base : Heap} {f : Addr} {fd : FuncData}
theorem scRs : FnScope ["alphabet", "size"] ["alphabet", "size"] (defScope sRsh) := ⟨rfl, rfl, rfl, by decide +kernel, rfl, by decide +kernel, by decide +kernel⟩
theorem ok_rsh {fA fB fN C : Addr} {fdA fdB fdN : FuncData} (F : FnP K "require_shape" sRsh f fd) (FA : FnP K "is_alphabet" sAlp fA fdA) (FB : FnP K "climbs" sClb fB fdB) (gB : mg "climbs" = some (.ref fB)) (FN : FnP K "is_number" sNum fN fdN) (T : NoS mg) (gM : ∃ t, mg "MOST_LETTERS" = some (.int 3 t))
    (gA : mg "is_alphabet" = some (.ref fA)) (gN : mg "is_number" = some (.ref fN)) (gC : mg "Machine" = some (.ref C)) (c24 : Told24 K C) : FnOk P w K mg base CX0 3 f fd ["alphabet", "size"] spRsh := by
  have GA : FnOk P w K mg base CX0 2 fA fdA ["value"] spAlp := ok_alp FA FB gB T gM
  have GN : FnOk P w K mg base CX0 2 fN fdN ["value"] (spNum K) := (ok_num FN T).mono (by decide)
  have bA : Binds K fdA ["value"] [] := FA.bindsN fun _ _ _ _ _ _ us hl => match us, hl with | [_], _ => rfl
  have bN : Binds K fdN ["value"] [] := FN.bindsN fun _ _ _ _ _ _ us hl => match us, hl with | [_], _ => rfl
  obtain ⟨mc, u24, cr, cv⟩ := c24
  refine F.ok scRs (fun vs H Q E h => ?_) (fun cdv A outer s H vs Q E hr h => ?_)
  · obtain ⟨x, n, rfl, _⟩ := h
    rfl
  · obtain ⟨x, n, rfl, ax, n1, n2, k⟩ := h
    refine ⟨_, PSs.nox (pss_cons (ps_if (pt_not (pt_val (pe_call GA hr rfl gA FA.kp bA .nil pass0 (pa_cons (pv 0) pa_nil)))) (pss_one ps_never) pss_nil)
      (pss_one (ps_if (PW.pt (pw_or (pt_not (pt_val (pe_call GN hr rfl gN FN.kp bN .nil pass0 (pa_cons (pv 1) pa_nil)))) (pw_or1 (pt_not (pt_chain op_le op_le pe_int (pv 1) (ClX.pe_cval (pe_glob (v := .ref C) rfl gC rfl)))))))
        (pss_one ps_never) pss_nil))), ?_⟩
    refine s_if (b := false) (et_not (a := true) (et_B ?_)) (fun h => nomatch h) (fun _ H1 e1 => ?_)
    · intro H1 e1 Q1 q1
      exact ⟨_, rfl, x, rfl, ax, q1⟩
    unfold tNext
    dsimp only
    refine s_if (b := false) (et_or (a := false) (b := false) (et_not (a := true) (et_B ?_)) (fun _ => et_not (a := true) ?_)) (fun h => nomatch h) (fun _ H2 e2 => ?_)
    · intro H2 e2 Q1 q1
      exact ⟨_, rfl, _, "int", rfl, kn_flat True.intro, q1⟩
    · intro H2 e2 Q2 q2
      refine ⟨_, rfl, _, _, rfl, rfl, _, rfl, ?_⟩
      have z1 : decide ((1 : Int) ≤ n) = true := decide_eq_true n1
      have z2 : decide (n ≤ (24 : Int)) = true := decide_eq_true n2
      rw [z1]
      refine iteT ⟨_, mc, _, u24, rfl, cr, cv, _, _, rfl, rfl, true, congrArg V.bl z2, ?_⟩
      exact q2 H2 (Ex.refl H2)
    · exact k H2 (e1.trans e2)
end
end K03

/-! the words to the states, breadth first: the numbers behind it -/
namespace K03
open PySem L2 Evl OxK
/-- the goals by the letters, put in where they are new -/
def vis (w : Str) : List (Nat × Nat) → List (Nat × Str) → List (Nat × Str)
  | [], kvs => kvs
  | (c, g) :: r, kvs => vis w r (if kvs.any (fun p => p.1 == g) then kvs else kvs ++ [(g, w ++ ⟨#[c]⟩)])
/-- from the d-th on -/
def bfs (x : Str) (rows : List (List Nat)) : Nat → Nat → List (Nat × Str) → List (Nat × Str)
  | 0, _, kvs => kvs
  | m + 1, d, kvs => match kvs[d]? with
    | none => kvs
    | some (s, w) => bfs x rows m (d + 1) (vis w ((sg x).zip (rows.getD s [])) kvs)
def roads (x : Str) (rows : List (List Nat)) : List (Nat × Str) := bfs x rows (rows.length + 1) 0 [(0, ⟨#[]⟩)]
def dkv (kvs : List (Nat × Str)) : List (Key × V) := kvs.map fun p => (.inl (p.1 : Int), .str p.2)
def keysV (kvs : List (Nat × Str)) : List V := kvs.map fun p => V.int (p.1 : Int)
/-- the rows at r, a tuple of tuples -/
def Rws (K : PySem.W.Frag) (H : Hp) (r : Addr) (rows : List (List Nat)) : Prop := ∃ bs : List Addr, SqT K H r (bs.map V.ref) ∧ bs.length = rows.length ∧ ∀ (i : Nat) (b : Addr) (row : List Nat), bs[i]? = some b → rows[i]? = some row → SqT K H b (row.map fun g : Nat => V.int (g : Int))
structure RowsOk (x : Str) (rows : List (List Nat)) : Prop where
  one : 1 ≤ rows.length
  most : rows.length ≤ 24
  wide : ∀ row ∈ rows, row.length = (sg x).length
  lt : ∀ row ∈ rows, ∀ g ∈ row, g < rows.length
def spFw (K : PySem.W.Frag) : Sp := fun vs H Q _ => ∃ (x : Str) (r : Addr) (rows : List (List Nat)), vs = [.str x, .ref r] ∧ AlphaOk x ∧ RowsOk x rows ∧ Rws K H r rows ∧ ∀ H' d, H d = none → Ex H H' → H' d = some (.dK (dkv (roads x rows))) → Q (.ref d) H'
structure BOk (n : Nat) (kvs : List (Nat × Str)) : Prop where
  nod : (kvs.map (·.1)).Nodup
  lt : ∀ p ∈ kvs, p.1 < n
  wd : ∀ p ∈ kvs, p.2.length < kvs.length
theorem BOk.few {n : Nat} {kvs : List (Nat × Str)} (b : BOk n kvs) : kvs.length ≤ n := by
  have h := L2.nat_nodup_len (kvs.map (·.1)) (List.range n) b.nod (fun x hx => by
    obtain ⟨p, hp, rfl⟩ := List.mem_map.mp hx
    exact List.mem_range.mpr (b.lt p hp))
  simpa using h
theorem any_key {kvs : List (Nat × Str)} {g : Nat} : kvs.any (fun p => p.1 == g) = true ↔ g ∈ kvs.map (·.1) := by
  simp [List.any_eq_true, List.mem_map]
theorem dkv_val {kvs : List (Nat × Str)} (nd : (kvs.map (·.1)).Nodup) {s : Nat} {w : Str} (h : (s, w) ∈ kvs) : valV (dkv kvs) (.inl (s : Int)) = some (.str w) := by
  induction kvs with
  | nil => cases h
  | cons p r ih =>
    rw [List.map_cons, List.nodup_cons] at nd
    rcases List.mem_cons.mp h with e | e
    · subst e
      exact valV_pos rfl
    · have ne : ¬ ((.inl (p.1 : Int) : Key) = .inl (s : Int)) := by
        intro z
        have z1 : (p.1 : Int) = (s : Int) := Sum.inl.inj z
        have z2 : p.1 = s := by omega
        exact nd.1 (z2 ▸ List.mem_map.mpr ⟨_, e, rfl⟩)
      show valV ((.inl (p.1 : Int), V.str p.2) :: dkv r) _ = _
      rw [valV_neg ne]
      exact ih nd.2 e
theorem dkv_some {kvs : List (Nat × Str)} {g : Nat} : (valV (dkv kvs) (.inl (g : Int))).isSome = kvs.any (fun p => p.1 == g) := by
  rw [← valV_any]
  induction kvs with
  | nil => rfl
  | cons p r ih =>
    show (decide ((Sum.inl (p.1 : Int) : Key) = .inl (g : Int)) || _) = (p.1 == g || _)
    rw [show ((List.map (fun p : Nat × Str => ((Sum.inl (p.1 : Int) : Key), V.str p.2)) r).any fun kv => decide (kv.1 = (.inl (g : Int) : Key))) = r.any (fun p => p.1 == g) from ih]
    congr 1
    rw [Bool.eq_iff_iff]
    simp
    omega
theorem dkv_put {kvs : List (Nat × Str)} {g : Nat} {w : Str} (h : kvs.any (fun p => p.1 == g) = false) : putK (dkv kvs) (.inl (g : Int)) (.str w) = dkv (kvs ++ [(g, w)]) := by
  have z : ((dkv kvs).any fun kv => decide (kv.1 = (.inl (g : Int) : Key))) = false := by rw [valV_any, dkv_some, h]
  unfold putK
  rw [z]
  simp [dkv]
theorem BOk.put {n : Nat} {kvs : List (Nat × Str)} (b : BOk n kvs) {g : Nat} {w : Str} {c : Nat} {s : Nat} (hs : (s, w) ∈ kvs) (hg : g < n) (h : kvs.any (fun p => p.1 == g) = false) : BOk n (kvs ++ [(g, w ++ ⟨#[c]⟩)]) := by
  refine ⟨?_, fun p hp => ?_, fun p hp => ?_⟩
  · rw [List.map_append, List.nodup_append]
    refine ⟨b.nod, by simp, fun a ha b' hb => ?_⟩
    simp at hb
    subst hb
    intro e
    subst e
    rw [any_key.mpr ha] at h
    cases h
  · rcases List.mem_append.mp hp with e | e
    · exact b.lt p e
    · simp at e
      subst e
      exact hg
  · rw [List.length_append]
    rcases List.mem_append.mp hp with e | e
    · have := b.wd p e
      simp
      omega
    · simp at e
      subst e
      have := b.wd _ hs
      show (w ++ (⟨#[c]⟩ : Str)).length < _
      have z : (w ++ (⟨#[c]⟩ : Str)).length = w.length + 1 := by
        show (w.cps ++ #[c]).size = w.cps.size + 1
        simp
      rw [z]
      simp
      exact this
end K03

/-! the words to the states, breadth first -/
namespace K03
open PySem L2 Evl OxK
section
variable {P : Program} {w : World} {K : PySem.W.Frag} {mg : Str → Option Value} {base : Heap} {f : Addr} {fd : FuncData}
theorem scFw : FnScope ["alphabet", "rows", "words", "order", "done", "state", "letter", "goal"] ["alphabet", "rows"] (defScope sFw) := ⟨rfl, rfl, rfl, by decide +kernel, rfl, by decide +kernel, by decide +kernel⟩
theorem ok_fw (F : FnP K "first_words" sFw f fd) (T : NoS mg) : FnOk P w K mg base CX0 1 f fd ["alphabet", "rows"] (spFw K) := by
  refine F.ok scFw (fun vs H Q E h => ?_) (fun cdv A outer s H vs Q E hr h => ?_)
  · obtain ⟨x, r, rows, rfl, _⟩ := h
    rfl
  · obtain ⟨x, r, rows, rfl, ax, ro, rw0, k⟩ := h
    have hu := Nat.lt_of_le_of_lt (Nat.add_le_add_left (show 1 ≤ 64 by decide) _) hr.units
    refine ⟨_, PSs.nox (pss_cons (ps_set (i := 2) scFw.nd rfl (Or.inl rfl) (pe_disp (pps_cons pe_int pe_str pps_nil) rfl rfl (by decide) (by decide)))
      (pss_cons (ps_set (i := 3) scFw.nd rfl (Or.inl rfl) (pe_lst (pa_cons pe_int pa_nil)))
      (pss_cons (ps_set (i := 4) scFw.nd rfl (Or.inl rfl) pe_int)
      (pss_cons (ps_while PassesOwn.never (pt_cmpR op_lt (pv 4) (pe_callB call_len_seq (by rfl) T.len PySem.boot_len (pa_cons (pv 3) pa_nil)) (nomark _))
        (pss_cons (ps_set (i := 5) scFw.nd rfl (Or.inl rfl) (pe_ix ix_list (pv 3) (pv 4) (fun _ _ => rfl)))
        (pss_cons (ps_for PassesOwn.never rfl (pi_zipM (by rfl) T.zip (pa_cons (pv 0) (pa_cons (pe_ix ix_tup (pv 1) (pv 5) (fun _ _ => rfl)) pa_nil)))
          (pg_tup (by rfl) (pgs_cons (pg_name (i := 6) scFw.nd rfl (Or.inl rfl)) (pgs_cons (pg_name (i := 7) scFw.nd rfl (Or.inl rfl)) pgs_nil)))
          (pss_one (ps_if (pt_cmp (pc_dnotin hu (pv 7) (pv 2)))
            (pss_cons (ps_dput hu (pv 2) (pv 7) (pe_op op_add_str (pe_dget hu (pv 2) (pv 5) (fun _ _ => rfl)) (pv 6)) rfl)
            (pss_one (ps_expr (pe_bm PySem.F.plainAttrs_list PySem.F.slot_list_append PySem.F.type_list_append mt_append (pv 3) (pa_cons (pv 7) pa_nil))))) pss_nil)))
        (pss_one (ps_aug (i := 4) scFw.nd rfl (Or.inl rfl) pe_int ip_add)))))
      (pss_one (ps_ret (pv 2))))))), ?_⟩
    have hlen : x.cps.size = (sg x).length := by simp [sg]
    have three := ax.three
    have n24 := ro.most
    refine fun d hd => ⟨upd_same, [(.inl 0, .str ⟨#[]⟩)], rfl, by decide, ?_⟩
    refine ⟨(by show 1 ≤ sizeLine; decide), fun o ho => ?_⟩
    have hd1 : upd (upd H d (.dK [])) d (.dK (mergeK [] [(.inl 0, .str ⟨#[]⟩)])) = upd (upd H d (.dK [])) d (.dK (dkv [(0, ⟨#[]⟩)])) := rfl
    rw [hd1] at ho ⊢
    have ne : o ≠ d := by
      intro z
      rw [z, upd_same] at ho
      cases ho
    have hO : H o = none := by
      rw [upd_ne ne, upd_ne ne] at ho
      exact ho
    have eB : Ex H (upd (upd H d (.dK [])) d (.dK (dkv [(0, ⟨#[]⟩)]))) := Ex.mut (Ex.new hd) hd
    let Iv : List (Nat × Str) → Hp → Prop := fun kvs H' => BOk rows.length kvs ∧ H' d = some (.dK (dkv kvs)) ∧ H' o = some (.lst (keysV kvs)) ∧ Ex H H'
    refine s_while (W := fun m σ' H' => ∃ (kvs : List (Nat × Str)) (dn : Nat) (u5 u6 u7 : Option V), σ' = [some (.str x), some (.ref r), some (.ref d), some (.ref o), some (.int (dn : Int)), u5, u6, u7] ∧ Iv kvs H' ∧ m = rows.length + 1 - dn ∧ bfs x rows m dn kvs = roads x rows)
      (rows.length + 1) ?_ ?_
    · refine ⟨[(0, ⟨#[]⟩)], 0, none, none, none, rfl, ⟨⟨by simp, fun p hp => ?_, fun p hp => ?_⟩, ?_, upd_same, Ex.mut eB hO⟩, rfl, rfl⟩
      · simp at hp; subst hp; exact ro.one
      · simp at hp; subst hp; exact Nat.zero_lt_one
      · rw [upd_ne (Ne.symm ne), upd_same]
    rintro m σ' H' ⟨kvs, dn, u5, u6, u7, rfl, ⟨bk, hD, hL, eH⟩, rfl, hb⟩
    have few := bk.few
    have kl : (keysV kvs).length = kvs.length := by simp [keysV]
    refine ⟨decide ((dn : Int) < ((keysV kvs).length : Int)), ?_, fun lt H1 e1 => ?_, fun ge H1 e1 => ?_⟩
    · intro H1 e1 Q1 q1
      exact ⟨_, rfl, _, rfl, o, keysV kvs, rfl, .inl (SqL.of (e1 _ _ hL)), _, _, rfl, rfl, _, rfl, q1 H1 (Ex.refl H1)⟩
    · have ldn : dn < kvs.length := by
        have z := of_decide_eq_true lt
        rw [kl] at z
        omega
      obtain ⟨⟨st, w⟩, hst⟩ : ∃ p, kvs[dn]? = some p := ⟨_, List.getElem?_eq_getElem ldn⟩
      have mem0 : (st, w) ∈ kvs := List.mem_of_getElem? hst
      have stn : st < rows.length := bk.lt _ mem0
      obtain ⟨row, hrow⟩ : ∃ p, rows[st]? = some p := ⟨_, List.getElem?_eq_getElem stn⟩
      have rmem : row ∈ rows := List.mem_of_getElem? hrow
      have wide := ro.wide row rmem
      obtain ⟨bs, hbs, bl, hrows⟩ := rw0
      obtain ⟨b, hbst⟩ : ∃ b, bs[st]? = some b := ⟨_, List.getElem?_eq_getElem (by omega)⟩
      have hrw := hrows st b row hbst hrow
      have rlen : (row.map fun g : Nat => V.int (g : Int)).length = (sg x).length := by rw [List.length_map, wide]
      refine ⟨fun σ2 H2 => ∃ (kvs2 : List (Nat × Str)) (u6 u7 : Option V), σ2 = [some (.str x), some (.ref r), some (.ref d), some (.ref o), some (.int ((dn + 1 : Nat) : Int)), some (.int (st : Int)), u6, u7] ∧ Iv kvs2 H2 ∧ kvs2 = vis w ((sg x).zip row) kvs, ?_, ?_⟩
      · rintro σ2 H2 ⟨kvs2, u6, u7, rfl, iv2, rfl⟩
        refine ⟨rows.length + 1 - (dn + 1), by omega, _, dn + 1, _, u6, u7, rfl, iv2, rfl, ?_⟩
        rw [← hb]
        have z : rows.length + 1 - dn = (rows.length + 1 - (dn + 1)) + 1 := by omega
        rw [z]
        show _ = (match kvs[dn]? with | none => kvs | some (s, w) => bfs x rows (rows.length + 1 - (dn + 1)) (dn + 1) (vis w ((sg x).zip (rows.getD s [])) kvs))
        rw [hst]
        show _ = bfs x rows (rows.length + 1 - (dn + 1)) (dn + 1) (vis w ((sg x).zip (rows.getD st [])) kvs)
        rw [List.getD_eq_getElem?_getD, hrow]
        rfl
      have hkey : (keysV kvs)[dn]? = some (V.int (st : Int)) := by
        show (kvs.map fun p => V.int (p.1 : Int))[dn]? = _
        rw [List.getElem?_map, hst]
        rfl
      refine ⟨_, rfl, _, rfl, o, keysV kvs, (dn : Int), _, rfl, rfl, SqL.of (e1 _ _ hL), atI_nat hkey, ?_⟩
      have hbv : (bs.map V.ref)[st]? = some (V.ref b) := by rw [List.getElem?_map, hbst]; rfl
      have eH1 := eH.trans e1
      refine ⟨_, rfl, _, rfl, _, rfl, r, bs.map V.ref, (st : Int), .ref b, rfl, rfl, ex_t eH1 hbs, atI_nat hbv, ?_⟩
      refine ⟨_, _, _, _, _, _, _, _, rfl, .txt x, .tup (ex_t eH1 hrw), ?_⟩
      let W' : Nat → Nat → L2.St → Hp → Prop := fun i m σ2 H2 => ∃ (kvs2 : List (Nat × Str)) (u6 u7 : Option V), σ2 = [some (.str x), some (.ref r), some (.ref d), some (.ref o), some (.int (dn : Int)), some (.int (st : Int)), u6, u7] ∧ Iv kvs2 H2 ∧ (st, w) ∈ kvs2 ∧ i ≤ (sg x).length ∧ m = (sg x).length - i ∧ vis w (((sg x).zip row).drop i) kvs2 = vis w ((sg x).zip row) kvs
      have zl : ((sg x).zip row).length = (sg x).length := by rw [List.length_zip, wide, Nat.min_self]
      refine ⟨W', ⟨(sg x).length, kvs, u6, u7, rfl, ⟨bk, e1 _ _ hD, e1 _ _ hL, eH1⟩, mem0, Nat.zero_le _, by omega, rfl⟩, ?_⟩
      rintro i m σ2 H2 ⟨kvs2, v6, v7, rfl, ⟨bk2, hD2, hL2, eH2⟩, mem2, hi, rfl, hv⟩
      by_cases hend : i = (sg x).length
      · refine .inl ⟨⟨by omega, by omega, .inl (by omega), True.intro, ex_t eH2 hrw⟩, ?_⟩
        refine ⟨_, rfl, _, _, rfl, rfl, ?_⟩
        refine ⟨kvs2, v6, v7, rfl, ⟨bk2, hD2, hL2, eH2⟩, ?_⟩
        rw [List.drop_of_length_le (by omega)] at hv
        exact hv
      refine .inr ⟨⟨by omega, by omega, True.intro, ex_t eH2 hrw⟩, W' (i + 1) ((sg x).length - (i + 1)), fun σ3 H3 h3 => ⟨_, by omega, h3⟩, ?_⟩
      rintro y H3 ⟨T', a, b', rfl, hT, rfl, ⟨ca, ha, rfl⟩, hb'⟩
      obtain ⟨g, hg, rfl⟩ : ∃ g, row[i]? = some g ∧ b' = V.int (g : Int) := by
        rw [List.getElem?_map] at hb'
        cases e : row[i]? with
        | none => rw [e] at hb'; cases hb'
        | some g => rw [e] at hb'; exact ⟨g, rfl, (Option.some.inj hb').symm⟩
      have h1 : (sg x)[i]? = some ca := by simpa [sg] using ha
      have gl : g < rows.length := ro.lt row rmem g (List.mem_of_getElem? hg)
      have hz : ((sg x).zip row)[i]? = some (ca, g) := by rw [List.getElem?_zip_eq_some]; exact ⟨h1, hg⟩
      obtain ⟨hzl, hze⟩ := List.getElem?_eq_some_iff.mp hz
      rw [List.drop_eq_getElem_cons hzl, hze] at hv
      have few2 := bk2.few
      have wd2 : w.length < kvs2.length := bk2.wd _ mem2
      have eT : Ex H2 (upd H2 T' (.tup [.str ⟨#[ca]⟩, .int (g : Int)])) := Ex.new hT
      refine ⟨T', _, rfl, SqT.of upd_same, rfl, _, _, rfl, _, _, rfl, rfl, ?_⟩
      refine s_if (b := !(kvs2.any fun p => p.1 == g)) ?_ (fun hnew H4 e4 => ?_) (fun hold H4 e4 => ?_)
      · intro H4 e4 Q4 q4
        refine ⟨_, rfl, _, rfl, d, valV (dkv kvs2) (.inl (g : Int)), rfl, DGet.k (k := .inl (g : Int)) (e4 _ _ (eT _ _ hD2)), ?_⟩
        rw [dkv_some]
        exact ⟨_, rfl, q4 H4 (Ex.refl H4)⟩
      · have new : (kvs2.any fun p => p.1 == g) = false := by
          cases z : kvs2.any fun p => p.1 == g with
          | false => rfl
          | true => rw [z] at hnew; cases hnew
        have hD4 := e4 _ _ (eT _ _ hD2)
        have hL4 := e4 _ _ (eT _ _ hL2)
        have hget : DGet H4 d (.int (st : Int)) (some (.str w)) := by
          have z := DGet.k (k := .inl (st : Int)) hD4
          rw [dkv_val bk2.nod mem2] at z
          exact z
        have dl : (dkv kvs2).length = kvs2.length := by simp [dkv]
        have kl2 : (keysV kvs2).length = kvs2.length := by simp [keysV]
        refine ⟨_, rfl, _, rfl, d, .str w, rfl, hget, _, rfl, w, ⟨#[ca]⟩, rfl, rfl, ?_, _, rfl, _, rfl, d, _, rfl, .inl ⟨_, .inl (g : Int), hD4, rfl, small1000 (by omega), rfl⟩, ?_⟩
        · have z : (⟨#[ca]⟩ : Str).length = 1 := rfl
          rw [z]
          exact Nat.le_of_lt (small1000 (by omega))
        refine s_app (l := o) (xs := keysV kvs2) (v := .int (g : Int)) (by rw [upd_ne ne]; exact hL4) (ev_var rfl) (ev_var rfl) (by omega) fun H5 e5 => ?_
        refine ⟨kvs2 ++ [(g, w ++ ⟨#[ca]⟩)], some (.str ⟨#[ca]⟩), some (.int (g : Int)), rfl, ⟨bk2.put mem2 gl new, ?_, ?_, ?_⟩, List.mem_append_left _ mem2, by omega, rfl, ?_⟩
        · rw [upd_ne (Ne.symm ne)]
          refine e5 _ _ ?_
          rw [upd_same, dkv_put new]
        · rw [upd_same]
          simp [keysV]
        · exact Ex.mut ((Ex.mut ((eH2.trans eT).trans e4) hd).trans e5) hO
        · rw [← hv]
          show _ = vis w _ (if kvs2.any (fun p => p.1 == g) then kvs2 else kvs2 ++ [(g, w ++ ⟨#[ca]⟩)])
          rw [new]
          rfl
      · have old : (kvs2.any fun p => p.1 == g) = true := by
          cases z : kvs2.any fun p => p.1 == g with
          | true => rfl
          | false => rw [z] at hold; cases hold
        refine ⟨kvs2, some (.str ⟨#[ca]⟩), some (.int (g : Int)), rfl, ⟨bk2, e4 _ _ (eT _ _ hD2), e4 _ _ (eT _ _ hL2), (eH2.trans eT).trans e4⟩, mem2, by omega, rfl, ?_⟩
        rw [← hv]
        show _ = vis w _ (if kvs2.any (fun p => p.1 == g) then kvs2 else kvs2 ++ [(g, w ++ ⟨#[ca]⟩)])
        rw [old]
        rfl
    · have gdn : kvs.length ≤ dn := by
        have z := of_decide_eq_false ge
        rw [kl] at z
        omega
      have hr2 : kvs = roads x rows := by
        rw [← hb]
        cases rows.length + 1 - dn with
        | zero => rfl
        | succ q =>
          show kvs = (match kvs[dn]? with | none => kvs | some (s, w) => bfs x rows q (dn + 1) (vis w ((sg x).zip (rows.getD s [])) kvs))
          rw [List.getElem?_eq_none gdn]
      refine ⟨_, rfl, k H1 d hd (eH.trans e1) ?_⟩
      rw [← hr2]
      exact e1 _ _ hD
end
end K03

/-! walks over a list or a tuple, plain or counted, seen alike -/
namespace L2
open PySem PySem.Spec PyProof.Rows Evl
/-- J goes n times wherever H0 still stands; yl tells what it yields -/
structure Wk (J : It) (H0 : Hp) (n : Nat) (yl : Nat → V → Hp → Hp → Prop) : Prop where
  go : ∀ i H, Ex H0 H → i < n → J.go i H
  stop : ∀ H, Ex H0 H → J.stop n H
  yld : ∀ i H x H', Ex H0 H → i < n → J.yld i H x H' → yl i x H H'
/-- the i-th itself; the i-th with its number, in a new tuple -/
def yPl (xs : List V) : Nat → V → Hp → Hp → Prop := fun i x H H' => H' = H ∧ xs[i]? = some x
def yEn (xs : List V) : Nat → V → Hp → Hp → Prop := fun i x H H' => ∃ T y, x = .ref T ∧ H T = none ∧ H' = upd H T (.tup [.int (i : Nat), y]) ∧ xs[i]? = some y
section
variable {K : PySem.W.Frag} {H0 : Hp} {a : Addr} {xs : List V}
theorem wk_l (h : SqL K H0 a xs) : Wk (Itl K a) H0 xs.length (yPl xs) where
  go := fun i H e hi => ⟨xs, xs[i], ex_l e h, by simp [hi]⟩
  stop := fun H e => ⟨xs, ex_l e h, Nat.le_refl _⟩
  yld := fun i H x H' e _ ⟨r, z⟩ => ⟨r, z xs (ex_l e h)⟩
theorem wk_t (h : SqT K H0 a xs) : Wk (Itt K a) H0 xs.length (yPl xs) where
  go := fun i H e hi => ⟨xs, xs[i], ex_t e h, by simp [hi]⟩
  stop := fun H e => ⟨xs, ex_t e h, Nat.le_refl _⟩
  yld := fun i H x H' e _ ⟨r, z⟩ => ⟨r, z xs (ex_t e h)⟩
theorem wk_et (h : SqT K H0 a xs) : Wk (ItnG xs.length (fun H => SqT K H a xs) (fun k y => xs[k]? = some y)) H0 xs.length (yEn xs) where
  go := fun i H e hi => ⟨hi, ex_t e h⟩
  stop := fun H e => ⟨rfl, ex_t e h⟩
  yld := fun i H x H' e _ z => z
theorem wk_el (h : SqL K H0 a xs) : Wk (Ite K a) H0 xs.length (yEn xs) where
  go := fun i H e hi => ⟨xs, xs[i], ex_l e h, by simp [hi]⟩
  stop := fun H e => ⟨xs, ex_l e h, Nat.le_refl _⟩
  yld := fun i H x H' e _ z => by
    obtain ⟨T, y, r, hT, e2, z⟩ := z
    exact ⟨T, y, r, hT, e2, z xs (ex_l e h)⟩
/-- for, over such a walk -/
theorem for_wk {J : It} {n : Nat} {yl : Nat → V → Hp → Hp → Prop} {g : TG} {tb : TS} {D : Ends} {σ : L2.St} {H : Hp} (wk : Wk J H0 n yl) (Pv : Nat → L2.St → Hp → Prop) (h0 : Pv 0 σ H) (he : ∀ i σ H, Pv i σ H → Ex H0 H)
    (hs : ∀ i x σ H H', i < n → yl i x H H' → Pv i σ H → g x σ H' fun σ2 H2 => tb { D with nx := Pv (i + 1), ct := Pv (i + 1), bk := D.nx } σ2 H2) (hd : ∀ σ H, Pv n σ H → D.nx σ H) :
    ∃ W : Nat → Nat → L2.St → Hp → Prop, (∃ m, W 0 m σ H) ∧ ∀ i m σ H, W i m σ H →
      (J.stop i H ∧ D.nx σ H) ∨ (J.go i H ∧ ∃ N : L2.St → Hp → Prop, (∀ σ' H', N σ' H' → ∃ m', m' < m ∧ W (i + 1) m' σ' H') ∧ ∀ x H', J.yld i H x H' → g x σ H' fun σ2 H2 => tb { D with nx := N, ct := N, bk := D.nx } σ2 H2) := by
  refine ⟨fun i m σ H => m = n - i ∧ i ≤ n ∧ Pv i σ H, ⟨n, by simp, Nat.zero_le _, h0⟩, ?_⟩
  rintro i m σ H ⟨rfl, hi, p⟩
  have e := he i σ H p
  by_cases hlt : i < n
  · exact .inr ⟨wk.go i H e hlt, Pv (i + 1), fun σ' H' p' => ⟨n - (i + 1), by omega, rfl, hlt, p'⟩, fun x H' y => hs i x σ H H' hlt (wk.yld i H x H' e hlt y) p⟩
  · have q : i = n := by omega
    subst q
    exact .inl ⟨wk.stop H e, hd σ H p⟩
end
end L2

/-! Machine.__init__ where all is in order -/
namespace K03
open PySem L2 Evl OxK
def rowV (row : List Nat) : List V := row.map fun g : Nat => V.int (g : Int)
/-- a list or a tuple of lists or tuples -/
def Mvs (K : PySem.W.Frag) (H : Hp) (m : Addr) (rows : List (List Nat)) : Prop := ∃ as : List Addr, (H m = some (.lst (as.map V.ref)) ∨ H m = some (.tup (as.map V.ref))) ∧ as.length = rows.length ∧
  ∀ (i : Nat) (a : Addr) (row : List Nat), as[i]? = some a → rows[i]? = some row → H a = some (.lst (rowV row)) ∨ H a = some (.tup (rowV row))
structure MCls (K : PySem.W.Frag) (C : Addr) : Prop where
  c : Cls K C
  s : NoAttr K C "signs"
  r : NoAttr K C "rows"
  d : NoAttr K C "roads"
def mFs (x : Str) (r d : Addr) : List (Str × V) := [("signs", .str x), ("rows", .ref r), ("roads", .ref d)]
/-- a machine at s -/
def IsM (K : PySem.W.Frag) (C : Addr) (H : Hp) (s : Addr) (x : Str) (rows : List (List Nat)) : Prop := ∃ dx r d, H s = some (.ins C dx (mFs x r d)) ∧ Rws K H r rows ∧ H d = some (.dK (dkv (roads x rows)))
def spMi (K : PySem.W.Frag) (C : Addr) : Sp := fun vs H Q _ => ∃ (s : Addr) (x : Str) (m : Addr) (rows : List (List Nat)) (H0 : Hp) (dx : Addr), vs = [.ref s, .str x, .ref m] ∧ AlphaOk x ∧ RowsOk x rows ∧ Mvs K H0 m rows ∧ Ex H0 H ∧ H0 s = none ∧ H s = some (.ins C dx []) ∧
  ∀ H' r d, Ex H0 H' → H0 r = none → H0 d = none → H' s = some (.ins C dx (mFs x r d)) → Rws K H' r rows → H' d = some (.dK (dkv (roads x rows))) → Q .non H'
def rTupOf (K : PySem.W.Frag) : List V → Hp → VK → Prop := fun xs H Q => ∃ p ys, xs = [.ref p] ∧ ((SqL K H p ys ∧ ∀ l, H l = none → Q (.ref l) (upd H l (.tup ys))) ∨ (SqT K H p ys ∧ Q (.ref p) H))
theorem call_tuple_ofK {X : Cx} {K : PySem.W.Frag} (h : X.K = K := by rfl) : CallR X (.type "tuple") (rTupOf K) := by
  subst h
  exact call_tuple_of
theorem or_enum {K : PySem.W.Frag} {σ : L2.St} {H : Hp} {R : It → Hp → Prop} {i : Nat} {m : Addr} {ms : List V} (hv : σ[i]? = some (some (.ref m))) (hm : H m = some (.lst ms) ∨ H m = some (.tup ms)) (k : ∀ J, Wk J H ms.length (yEn ms) → R J H) :
    iEnum K (tCons (tVar i) tNil) σ H R ∨ iEnumM K (tCons (tVar i) tNil) σ H R := by
  rcases hm with h | h
  · exact .inl ⟨_, hv, m, ms, rfl, SqL.of h, k _ (wk_el (SqL.of h))⟩
  · exact .inr ⟨_, hv, .ref m, ms.length, _, _, rfl, .tup (SqT.of h), k _ (wk_et (SqT.of h))⟩
theorem or_seq {K : PySem.W.Frag} {σ : L2.St} {H : Hp} {R : It → Hp → Prop} {i : Nat} {m : Addr} {ms : List V} (hv : σ[i]? = some (some (.ref m))) (hm : H m = some (.lst ms) ∨ H m = some (.tup ms)) (k : ∀ J, Wk J H ms.length (yPl ms) → R J H) :
    iList K (tVar i) σ H R ∨ iTup K (tVar i) σ H R := by
  rcases hm with h | h
  · exact .inl ⟨_, hv, m, rfl, ⟨ms, SqL.of h⟩, k _ (wk_l (SqL.of h))⟩
  · exact .inr ⟨_, hv, m, rfl, ⟨ms, SqT.of h⟩, k _ (wk_t (SqT.of h))⟩
theorem isIx_row {row : List Nat} {n : Nat} (h : ∀ g ∈ row, g < n) : ((rowV row).all fun y => isIx y (n : Int)) = true := by
  rw [List.all_eq_true]
  intro y hy
  obtain ⟨g, hg, rfl⟩ := List.mem_map.mp hy
  have z := h g hg
  show (decide (0 ≤ (g : Int)) && decide ((g : Int) < (n : Int))) = true
  simp
  exact z
section
variable {P : Program} {w : World} {K : PySem.W.Frag} {mg : Str → Option Value} {base : Heap} {f : Addr} {fd : FuncData}
theorem scMi : FnScope ["self", "alphabet", "moves", "index", "row", "goals"] ["self", "alphabet", "moves"] (defScope sMi) := ⟨rfl, rfl, rfl, by decide +kernel, rfl, by decide +kernel, by decide +kernel⟩
theorem ok_mi {fR fL fG fF C : Addr} {fdR fdL fdG fdF : FuncData} (F : FunD K "__init__" "Machine.__init__" (defArgs sMi) (defBody sMi) (defScope sMi) [] [] f fd) (T : NoS mg) (gE : mg "enumerate" = none) (MC : MCls K C)
    (GR : FnOk P w K mg base CX0 3 fR fdR ["alphabet", "size"] spRsh) (gR : mg "require_shape" = some (.ref fR)) (kR : PySem.W.keepIn K (.ref fR) = true) (bR : Binds K fdR ["alphabet", "size"] [])
    (GL : FnOk P w K mg base CX0 1 fL fdL ["value"] (spLst K)) (gL : mg "is_list" = some (.ref fL)) (kL : PySem.W.keepIn K (.ref fL) = true) (bL : Binds K fdL ["value"] [])
    (GG : FnOk P w K mg base CX0 3 fG fdG ["value", "letters", "states"] (spGls K)) (gG : mg "is_goals" = some (.ref fG)) (kG : PySem.W.keepIn K (.ref fG) = true) (bG : Binds K fdG ["value", "letters", "states"] [])
    (GF : FnOk P w K mg base CX0 1 fF fdF ["alphabet", "rows"] (spFw K)) (gF : mg "first_words" = some (.ref fF)) (kF : PySem.W.keepIn K (.ref fF) = true) (bF : Binds K fdF ["alphabet", "rows"] []) :
    FnOk P w K mg base CX0 4 f fd ["self", "alphabet", "moves"] (spMi K C) := by
  refine F.ok scMi (fun vs H Q E h => ?_) (fun cdv A outer s H vs Q E hr h => ?_)
  · obtain ⟨s, x, m, rows, H0, dx, rfl, _⟩ := h
    rfl
  · obtain ⟨se, x, m, rows, H0, dx, rfl, ax, ro, mv, e0, hs0, hs, k⟩ := h
    refine ⟨_, PSs.nox (pss_cons (ps_expr (pe_call GR (hr.mono (by decide)) rfl gR kR bR .nil pass0 (pa_cons (pv 1) (pa_cons (pe_ifExp (pt_val (pe_call GL (hr.mono (by decide)) rfl gL kL bL .nil pass0 (pa_cons (pv 2) pa_nil))) (pe_callB call_len_seq (by rfl) T.len PySem.boot_len (pa_cons (pv 2) pa_nil)) pe_int) pa_nil))))
      (pss_cons (ps_for PassesOwn.never rfl (pi_or (pi_enum (by rfl) gE (pa_cons (pv 2) pa_nil)) (pi_enumM (by rfl) gE (pa_cons (pv 2) pa_nil))) (pg_tup (by rfl) (pgs_cons (pg_name (i := 3) scMi.nd rfl (Or.inl rfl)) (pgs_cons (pg_name (i := 4) scMi.nd rfl (Or.inl rfl)) pgs_nil)))
        (pss_one (ps_if (pt_not (pt_val (pe_call GG (hr.mono (by decide)) rfl gG kG bG .nil pass0 (pa_cons (pv 4) (pa_cons (pe_callB call_len_str (by rfl) T.len PySem.boot_len (pa_cons (pv 1) pa_nil)) (pa_cons (pe_callB call_len_seq (by rfl) T.len PySem.boot_len (pa_cons (pv 2) pa_nil)) pa_nil)))))) (pss_one ps_never) pss_nil)))
      (pss_cons (ps_fld (pv 0) (pv 1) rfl)
      (pss_cons (ps_fld (pv 0) (pe_callTy call_tuple_of (by rfl) T.b.tup PyProof.Rows.boot_tuple (pa_cons (pe_lc (own := [("goals", 5)]) (g := gName 5) (tt := tYes) (by rfl) scMi.nd (pi_or (pi_list (pv 2)) (pi_tup (pv 2))) (blkOk_by (own := [("goals", 5)]) (N := ["self", "alphabet", "moves", "index", "row", "goals"]) (sc := defScope sMi) (by decide +kernel))
        (fun _ _ _ _ _ => pg_name (i := 5) scMi.nd rfl (Or.inl rfl)) (fun _ _ _ _ _ => pts_nil) (fun _ _ _ _ _ => pe_callTy (call_tuple_ofK (K := K)) (by rfl) T.b.tup PyProof.Rows.boot_tuple (pa_cons (pv 5) pa_nil))) pa_nil)) rfl)
      (pss_one (ps_fld (pv 0) (pe_call GF (hr.mono (by decide)) rfl gF kF bF .nil pass0 (pa_cons (pe_fld (pv 0) rfl) (pa_cons (pe_fld (pv 0) rfl) pa_nil))) rfl)))))), ?_⟩
    have hxl : x.length = (sg x).length := by simp [Str.length, sg]
    have x3 := ax.three
    have n24 := ro.most
    have n1 := ro.one
    obtain ⟨as, hm0, al, hrows⟩ := mv
    have msl : (as.map V.ref).length = rows.length := by rw [List.length_map, al]
    have hmH : ∀ H', Ex H0 H' → (H' m = some (.lst (as.map V.ref)) ∨ H' m = some (.tup (as.map V.ref))) := fun H' e => hm0.imp (e _ _) (e _ _)
    have sqH : ∀ H', Ex H0 H' → (SqL K H' m (as.map V.ref) ∨ SqT K H' m (as.map V.ref)) := fun H' e => (hmH H' e).imp SqL.of SqT.of
    have hk : ∃ T, Kn K H (.ref m) T ∧ (isB T "list" || isB T "tuple") = true := by
      rcases hmH H e0 with ha | ha
      · exact ⟨_, kn_lst ha, rfl⟩
      · exact ⟨_, kn_tup ha, rfl⟩
    obtain ⟨Tm, km, hb⟩ := hk
    refine ⟨_, rfl, _, rfl, .ref m, Tm, rfl, km, fun H1 e1 => ⟨_, rfl, ?_⟩⟩
    rw [hb]
    refine iteT ⟨_, rfl, m, as.map V.ref, rfl, sqH H1 (e0.trans e1), x, _, rfl, ax, by omega, by omega, fun H2 e2 => ?_⟩
    have E2 : Ex H0 H2 := (e0.trans e1).trans e2
    have S2 : H2 se = some (.ins C dx []) := e2 _ _ (e1 _ _ hs)
    refine or_enum (ms := as.map V.ref) rfl (hmH H2 E2) fun J wk => ?_
    refine for_wk wk (fun i σ' H' => ∃ u3 u4 : Option V, σ' = [some (.ref se), some (.str x), some (.ref m), u3, u4, none] ∧ Ex H2 H') ⟨none, none, rfl, Ex.refl H2⟩ (fun i σ' H' ⟨_, _, _, e⟩ => e) ?_ ?_
    · rintro i y σ' H3 H4 hi ⟨T', z, rfl, hT, rfl, hz⟩ ⟨u3, u4, rfl, e3⟩
      obtain ⟨a, ha, rfl⟩ : ∃ a, as[i]? = some a ∧ z = V.ref a := by
        rw [List.getElem?_map] at hz
        cases e : as[i]? with
        | none => rw [e] at hz; cases hz
        | some g => rw [e] at hz; exact ⟨g, rfl, (Option.some.inj hz).symm⟩
      have hi2 : i < rows.length := by omega
      obtain ⟨row, hrow⟩ : ∃ row, rows[i]? = some row := ⟨_, List.getElem?_eq_getElem hi2⟩
      have rm : row ∈ rows := List.mem_of_getElem? hrow
      have wide := ro.wide row rm
      have hat := hrows i a row ha hrow
      have E3 : Ex H0 (upd H3 T' (.tup [.int (i : Nat), .ref a])) := (E2.trans e3).trans (Ex.new hT)
      refine ⟨T', _, rfl, SqT.of upd_same, rfl, _, _, rfl, _, _, rfl, rfl, ?_⟩
      refine s_if (b := false) (et_not (a := true) (et_B ?_)) (fun h => nomatch h) (fun _ H5 e5 => ?_)
      · intro H5 e5 Q5 q5
        refine ⟨_, rfl, _, rfl, x, rfl, ?_, _, rfl, m, as.map V.ref, rfl, sqH H5 (E3.trans e5), ?_⟩
        · exact Nat.le_of_lt (small1000 (by omega))
        refine ⟨.ref a, _, _, rfl, .inr ⟨a, rowV row, rfl, hat.imp (fun h => e5 _ _ (E3 _ _ h)) (fun h => e5 _ _ (E3 _ _ h)), ?_, ?_, fun H6 e6 => ?_⟩⟩
        · intro y hy
          obtain ⟨g, _, rfl⟩ := List.mem_map.mp hy
          exact True.intro
        · simp [rowV]; omega
        · have z1 : (((rowV row).length : Int) = (x.length : Int)) := by simp [rowV]; omega
          have z2 := isIx_row (n := rows.length) (ro.lt row rm)
          rw [msl, decide_eq_true z1, z2]
          exact q5 H6 e6
      · exact ⟨_, _, rfl, (e3.trans (Ex.new hT)).trans e5⟩
    rintro σ' H3 ⟨u3, u4, rfl, e3⟩
    have S3 : H3 se = some (.ins C dx []) := e3 _ _ S2
    refine ⟨_, rfl, _, rfl, se, C, dx, [], rfl, S3, MC.c, MC.s, by decide, ?_⟩
    obtain ⟨Hs, hHs⟩ : ∃ Hs, Hs = upd H3 se (.ins C dx [("signs", V.str x)]) := ⟨_, rfl⟩
    have Ss : Hs se = some (.ins C dx [("signs", V.str x)]) := by rw [hHs, upd_same]
    have Es : Ex H0 Hs := by rw [hHs]; exact Ex.mut (E2.trans e3) hs0
    have hp1 : upd H3 se (.ins C dx (putF "signs" (V.str x) [])) = Hs := by rw [hHs]; rfl
    rw [hp1]
    refine or_seq (ms := as.map V.ref) rfl (hmH Hs Es) fun J wk => fun D hD => ?_
    refine lc_any (J := J) (n := (as.map V.ref).length) (fun i H' => Ex Hs H' ∧ ∃ bs : List Addr, bs.length = i ∧ H' D = some (.lst (bs.map V.ref)) ∧ ∀ (j : Nat) (b : Addr) (row : List Nat), bs[j]? = some b → rows[j]? = some row → H' b = some (.tup (rowV row)))
      ⟨Ex.new hD, [], rfl, upd_same, fun j b row h => by cases h⟩ (fun i H' hi p => wk.go i H' p.1 hi) (fun H' p => wk.stop H' p.1) ?_ ?_
    · rintro i H4 y H5 hi ⟨e4, bs, bl, hDl, hbs⟩ yl
      obtain ⟨rfl, hz⟩ := wk.yld i H4 y H5 e4 hi yl
      obtain ⟨a, ha, rfl⟩ : ∃ a, as[i]? = some a ∧ y = V.ref a := by
        rw [List.getElem?_map] at hz
        cases e : as[i]? with
        | none => rw [e] at hz; cases hz
        | some g => rw [e] at hz; exact ⟨g, rfl, (Option.some.inj hz).symm⟩
      have hi2 : i < rows.length := by omega
      obtain ⟨row, hrow⟩ : ∃ row, rows[i]? = some row := ⟨_, List.getElem?_eq_getElem hi2⟩
      have hat := hrows i a row ha hrow
      have E4 := Es.trans e4
      have fin : ∀ (H6 : Hp) (t : Addr), Ex H5 H6 → H6 t = some (.tup (rowV row)) → ∃ acc, H6 D = some (.lst acc) ∧ acc.length < sizeLine ∧ (Ex Hs (upd H6 D (.lst (acc ++ [.ref t]))) ∧ ∃ bs : List Addr, bs.length = i + 1 ∧ upd H6 D (.lst (acc ++ [.ref t])) D = some (.lst (bs.map V.ref)) ∧
          ∀ (j : Nat) (b : Addr) (row : List Nat), bs[j]? = some b → rows[j]? = some row → upd H6 D (.lst (acc ++ [.ref t])) b = some (.tup (rowV row))) := by
        intro H6 t e6 ht
        have hD6 := e6 _ _ hDl
        refine ⟨_, hD6, small1000 (by rw [List.length_map]; omega), Ex.mut (e4.trans e6) hD, bs ++ [t], by simp [bl], ?_, ?_⟩
        · rw [upd_same, List.map_append]; rfl
        · intro j b row2 hj hr2
          have hb6 : H6 b = some (.tup (rowV row2)) := by
            by_cases q : j < bs.length
            · rw [List.getElem?_append_left q] at hj
              exact e6 _ _ (hbs j b row2 hj hr2)
            · rw [List.getElem?_append_right (by omega)] at hj
              have q2 : j = bs.length := by
                have := (List.getElem?_eq_some_iff.mp hj).1
                simp at this
                omega
              subst q2
              simp at hj
              subst hj
              rw [bl, hrow] at hr2
              cases hr2
              exact ht
          have nb : b ≠ D := by
            intro z
            rw [z, hD6] at hb6
            cases hb6
          rw [upd_ne nb]
          exact hb6
      refine ⟨rfl, tt_yes ?_⟩
      rcases hat with h | h
      · exact ⟨_, rfl, a, rowV row, rfl, .inl ⟨SqL.of (E4 _ _ h), fun l hl => fin _ l (Ex.new hl) upd_same⟩⟩
      · exact ⟨_, rfl, a, rowV row, rfl, .inr ⟨SqT.of (E4 _ _ h), fin _ a (Ex.refl _) (E4 _ _ h)⟩⟩
    rintro H4 ⟨e4, bs, bl, hDl, hbs⟩
    refine ⟨D, bs.map V.ref, rfl, .inl ⟨SqL.of hDl, fun l hl => ?_⟩⟩
    have S4 := e4 _ _ Ss
    have nls : l ≠ se := by
      intro z
      rw [z, S4] at hl
      cases hl
    refine ⟨_, rfl, se, C, dx, [("signs", V.str x)], rfl, (by rw [upd_ne (Ne.symm nls)]; exact S4), MC.c, MC.r, (show 1 < 1000 by decide), ?_⟩
    obtain ⟨G, hG⟩ : ∃ G, G = upd (upd H4 l (.tup (bs.map V.ref))) se (.ins C dx [("signs", V.str x), ("rows", .ref l)]) := ⟨_, rfl⟩
    have hp2 : upd (upd H4 l (.tup (bs.map V.ref))) se (.ins C dx (putF "rows" (.ref l) [("signs", V.str x)])) = G := by rw [hG]; rfl
    rw [hp2]
    have SG : G se = some (.ins C dx [("signs", V.str x), ("rows", .ref l)]) := by rw [hG, upd_same]
    have EG : Ex H0 G := by rw [hG]; exact Ex.mut ((Es.trans e4).trans (Ex.new hl)) hs0
    have gl : G l = some (.tup (bs.map V.ref)) := by rw [hG, upd_ne nls, upd_same]
    have gb : ∀ (j : Nat) (b : Addr) (row : List Nat), bs[j]? = some b → rows[j]? = some row → b ≠ se ∧ G b = some (.tup (rowV row)) := by
      intro j b row hj hr2
      have hb4 := hbs j b row hj hr2
      have n1 : b ≠ se := by
        intro z
        rw [z, S4] at hb4
        cases hb4
      have n2 : b ≠ l := by
        intro z
        rw [z, hl] at hb4
        cases hb4
      refine ⟨n1, ?_⟩
      rw [hG, upd_ne n1, upd_ne n2]
      exact hb4
    have hR : Rws K G l rows := ⟨bs, SqT.of gl, by omega, fun j b row hj hr2 => SqT.of (gb j b row hj hr2).2⟩
    refine ⟨_, rfl, se, C, dx, _, _, rfl, SG, MC.c, MC.s, rfl, _, rfl, se, C, dx, _, _, rfl, SG, MC.c, MC.r, rfl, x, l, rows, rfl, ax, ro, hR, fun H5 d hd e5 hdd => ?_⟩
    have S5 := e5 _ _ SG
    have nds : d ≠ se := by
      intro z
      rw [z, SG] at hd
      cases hd
    refine ⟨_, rfl, se, C, dx, [("signs", V.str x), ("rows", .ref l)], rfl, S5, MC.c, MC.d, (show 2 < 1000 by decide), ?_⟩
    refine k _ l d (Ex.mut (EG.trans e5) hs0) (fresh_back ((Es.trans e4)) hl) (fresh_back EG hd) upd_same ?_ (by rw [upd_ne nds]; exact hdd)
    refine ⟨bs, SqT.of (by rw [upd_ne nls]; exact e5 _ _ gl), by omega, fun j b row hj hr2 => SqT.of ?_⟩
    obtain ⟨n1, g1⟩ := gb j b row hj hr2
    rw [upd_ne n1]
    exact e5 _ _ g1
end
end K03

/-! what a machine tells -/
namespace K03
open PySem L2 Evl OxK
def spMal (K : PySem.W.Frag) (C : Addr) : Sp := fun vs H Q _ => ∃ (s : Addr) (x : Str) (rows : List (List Nat)), vs = [.ref s] ∧ IsM K C H s x rows ∧ ∀ H', Ex H H' → Q (.str x) H'
def spMst (K : PySem.W.Frag) (C : Addr) : Sp := fun vs H Q _ => ∃ (s : Addr) (x : Str) (rows : List (List Nat)), vs = [.ref s] ∧ IsM K C H s x rows ∧ ∀ H', Ex H H' → Q (.int (rows.length : Int)) H'
/-- new lists in a new list -/
def NewRows (H H' : Hp) (D : Addr) (rows : List (List Nat)) : Prop := H D = none ∧ ∃ bs : List Addr, bs.length = rows.length ∧ H' D = some (.lst (bs.map V.ref)) ∧ ∀ (j : Nat) (b : Addr) (row : List Nat), bs[j]? = some b → rows[j]? = some row → H b = none ∧ H' b = some (.lst (rowV row))
def spMmv (K : PySem.W.Frag) (C : Addr) : Sp := fun vs H Q _ => ∃ (s : Addr) (x : Str) (rows : List (List Nat)), vs = [.ref s] ∧ IsM K C H s x rows ∧ rows.length ≤ 100 ∧ ∀ H' D, Ex H H' → NewRows H H' D rows → Q (.ref D) H'
def rListOf (K : PySem.W.Frag) : List V → Hp → VK → Prop := fun xs H Q => ∃ p ys, xs = [.ref p] ∧ (SqL K H p ys ∨ SqT K H p ys) ∧ ∀ l, H l = none → Q (.ref l) (upd H l (.lst ys))
theorem call_list_ofK {X : Cx} {K : PySem.W.Frag} (h : X.K = K := by rfl) : CallR X (.type "list") (rListOf K) := by
  subst h
  exact call_list_of
section
variable {P : Program} {w : World} {K : PySem.W.Frag} {mg : Str → Option Value} {base : Heap} {f C : Addr} {fd : FuncData}
theorem scSelf1 : FnScope ["self"] ["self"] (defScope sMalpha) := ⟨rfl, rfl, rfl, by decide +kernel, rfl, by decide +kernel, by decide +kernel⟩
theorem ok_mal (F : FunD K "alphabet" "Machine.alphabet" (defArgs sMalpha) (defBody sMalpha) (defScope sMalpha) [] [] f fd) (MC : MCls K C) : FnOk P w K mg base CX0 1 f fd ["self"] (spMal K C) := by
  refine F.ok scSelf1 (fun vs H Q E h => ?_) (fun cdv A outer s H vs Q E hr h => ?_)
  · obtain ⟨s, x, rows, rfl, _⟩ := h
    rfl
  · obtain ⟨s, x, rows, rfl, ⟨dx, r, d, hs, hR, hd⟩, k⟩ := h
    exact ⟨_, PSs.nox (pss_one (ps_ret (pe_fld (pv 0) rfl))), _, rfl, s, C, dx, _, .str x, rfl, hs, MC.c, MC.s, rfl, k H (Ex.refl H)⟩
theorem scSt : FnScope ["self"] ["self"] (defScope sMst) := ⟨rfl, rfl, rfl, by decide +kernel, rfl, by decide +kernel, by decide +kernel⟩
theorem ok_mst (F : FunD K "states" "Machine.states" (defArgs sMst) (defBody sMst) (defScope sMst) [] [] f fd) (T : NoS mg) (MC : MCls K C) : FnOk P w K mg base CX0 1 f fd ["self"] (spMst K C) := by
  refine F.ok scSt (fun vs H Q E h => ?_) (fun cdv A outer s H vs Q E hr h => ?_)
  · obtain ⟨s, x, rows, rfl, _⟩ := h
    rfl
  · obtain ⟨s, x, rows, rfl, ⟨dx, r, d, hs, ⟨bs, hB, bl, hR⟩, hd⟩, k⟩ := h
    refine ⟨_, PSs.nox (pss_one (ps_ret (pe_callB call_len_seq (by rfl) T.len PySem.boot_len (pa_cons (pe_fld (pv 0) rfl) pa_nil)))), _, rfl, s, C, dx, _, .ref r, rfl, hs, MC.c, MC.r, rfl, r, bs.map V.ref, rfl, .inr hB, ?_⟩
    rw [List.length_map, bl]
    exact k H (Ex.refl H)
theorem scLn : FnScope ["self"] ["self"] (defScope sMln) := ⟨rfl, rfl, rfl, by decide +kernel, rfl, by decide +kernel, by decide +kernel⟩
theorem ok_mln (F : FunD K "__len__" "Machine.__len__" (defArgs sMln) (defBody sMln) (defScope sMln) [] [] f fd) (T : NoS mg) (MC : MCls K C) : FnOk P w K mg base CX0 1 f fd ["self"] (spMst K C) := by
  refine F.ok scLn (fun vs H Q E h => ?_) (fun cdv A outer s H vs Q E hr h => ?_)
  · obtain ⟨s, x, rows, rfl, _⟩ := h
    rfl
  · obtain ⟨s, x, rows, rfl, ⟨dx, r, d, hs, ⟨bs, hB, bl, hR⟩, hd⟩, k⟩ := h
    refine ⟨_, PSs.nox (pss_one (ps_ret (pe_callB call_len_seq (by rfl) T.len PySem.boot_len (pa_cons (pe_fld (pv 0) rfl) pa_nil)))), _, rfl, s, C, dx, _, .ref r, rfl, hs, MC.c, MC.r, rfl, r, bs.map V.ref, rfl, .inr hB, ?_⟩
    rw [List.length_map, bl]
    exact k H (Ex.refl H)
theorem scMv : FnScope ["self", "goals"] ["self"] (defScope sMmv) := ⟨rfl, rfl, rfl, by decide +kernel, rfl, by decide +kernel, by decide +kernel⟩
theorem ok_mmv (F : FunD K "moves" "Machine.moves" (defArgs sMmv) (defBody sMmv) (defScope sMmv) [] [] f fd) (T : NoS mg) (MC : MCls K C) : FnOk P w K mg base CX0 1 f fd ["self"] (spMmv K C) := by
  refine F.ok scMv (fun vs H Q E h => ?_) (fun cdv A outer s H vs Q E hr h => ?_)
  · obtain ⟨s, x, rows, rfl, _⟩ := h
    rfl
  · obtain ⟨s, x, rows, rfl, ⟨dx, r, d, hs, ⟨bs, hB, bl, hR⟩, hd⟩, few, k⟩ := h
    refine ⟨_, PSs.nox (pss_one (ps_ret (pe_lc (own := [("goals", 1)]) (g := gName 1) (tt := tYes) (by rfl) scMv.nd (pi_tup (pe_fld (pv 0) rfl)) (blkOk_by (own := [("goals", 1)]) (N := ["self", "goals"]) (sc := defScope sMmv) (by decide +kernel))
      (fun _ _ _ _ _ => pg_name (i := 1) scMv.nd rfl (Or.inl rfl)) (fun _ _ _ _ _ => pts_nil) (fun _ _ _ _ _ => pe_callTy (call_list_ofK (K := K)) (by rfl) T.b.lst PyProof.Rows.boot_list (pa_cons (pv 1) pa_nil))))), ?_⟩
    refine ⟨_, rfl, s, C, dx, _, .ref r, rfl, hs, MC.c, MC.r, rfl, r, rfl, ⟨_, hB⟩, fun D hD => ?_⟩
    have wk := wk_t hB
    refine lc_any (J := Itt K r) (n := (bs.map V.ref).length) (fun i H' => Ex H H' ∧ ∃ ls : List Addr, ls.length = i ∧ H' D = some (.lst (ls.map V.ref)) ∧ ∀ (j : Nat) (b : Addr) (row : List Nat), ls[j]? = some b → rows[j]? = some row → H b = none ∧ H' b = some (.lst (rowV row)) ∧ b ≠ D)
      ⟨Ex.new hD, [], rfl, upd_same, fun j b row h => by cases h⟩ (fun i H' hi p => wk.go i H' p.1 hi) (fun H' p => wk.stop H' p.1) ?_ ?_
    · rintro i H4 y H5 hi ⟨e4, ls, ll, hDl, hls⟩ yl
      obtain ⟨rfl, hz⟩ := wk.yld i H4 y H5 e4 hi yl
      obtain ⟨a, ha, rfl⟩ : ∃ a, bs[i]? = some a ∧ y = V.ref a := by
        rw [List.getElem?_map] at hz
        cases e : bs[i]? with
        | none => rw [e] at hz; cases hz
        | some g => rw [e] at hz; exact ⟨g, rfl, (Option.some.inj hz).symm⟩
      have hi2 : i < rows.length := by rw [List.length_map] at hi; omega
      obtain ⟨row, hrow⟩ : ∃ row, rows[i]? = some row := ⟨_, List.getElem?_eq_getElem hi2⟩
      have hat := ex_t e4 (hR i a row ha hrow)
      refine ⟨rfl, tt_yes ⟨_, rfl, a, _, rfl, .inr hat, fun l hl => ?_⟩⟩
      have nlD : l ≠ D := by
        intro z
        rw [z, hDl] at hl
        cases hl
      refine ⟨_, (by rw [upd_ne (Ne.symm nlD)]; exact hDl), small1000 (by rw [List.length_map]; omega), Ex.mut (e4.trans (Ex.new hl)) hD, ls ++ [l], by simp [ll], ?_, ?_⟩
      · rw [upd_same, List.map_append]; rfl
      · intro j b row2 hj hr2
        by_cases q : j < ls.length
        · rw [List.getElem?_append_left q] at hj
          obtain ⟨h1, h2, h3⟩ := hls j b row2 hj hr2
          have nbl : b ≠ l := by
            intro z
            rw [z, hl] at h2
            cases h2
          exact ⟨h1, by rw [upd_ne h3, upd_ne nbl]; exact h2, h3⟩
        · rw [List.getElem?_append_right (by omega)] at hj
          have q2 : j = ls.length := by
            have := (List.getElem?_eq_some_iff.mp hj).1
            simp at this
            omega
          subst q2
          simp at hj
          subst hj
          rw [ll, hrow] at hr2
          cases hr2
          exact ⟨fresh_back e4 hl, by rw [upd_ne nlD, upd_same]; rfl, nlD⟩
    rintro H4 ⟨e4, ls, ll, hDl, hls⟩
    exact k H4 D e4 ⟨hD, ls, by rw [ll, List.length_map, bl], hDl, fun j b row hj hr2 => ⟨(hls j b row hj hr2).1, (hls j b row hj hr2).2.1⟩⟩
end
end K03

/-! the states that words lead to -/
namespace K03
open PySem L2 Evl OxK
theorem vis_ok {n : Nat} {st : Nat} {w : Str} : ∀ (zs : List (Nat × Nat)) (kvs : List (Nat × Str)), (∀ z ∈ zs, z.2 < n) → (st, w) ∈ kvs → BOk n kvs → BOk n (vis w zs kvs)
  | [], _, _, _, b => b
  | (c, g) :: r, kvs, h, m, b => by
    show BOk n (vis w r (if kvs.any (fun p => p.1 == g) then kvs else kvs ++ [(g, w ++ ⟨#[c]⟩)]))
    have hr : ∀ z ∈ r, z.2 < n := fun z hz => h z (List.mem_cons_of_mem _ hz)
    cases e : kvs.any fun p => p.1 == g with
    | true => exact vis_ok r kvs hr m b
    | false => exact vis_ok r _ hr (List.mem_append_left _ m) (b.put m (h (c, g) List.mem_cons_self) e)
theorem bfs_ok {x : Str} {rows : List (List Nat)} (ro : RowsOk x rows) : ∀ (m d : Nat) (kvs : List (Nat × Str)), BOk rows.length kvs → BOk rows.length (bfs x rows m d kvs)
  | 0, _, _, b => b
  | m + 1, d, kvs, b => by
    show BOk rows.length (match kvs[d]? with | none => kvs | some (s, w) => bfs x rows m (d + 1) (vis w ((sg x).zip (rows.getD s [])) kvs))
    cases e : kvs[d]? with
    | none => exact b
    | some p =>
      obtain ⟨s, w⟩ := p
      refine bfs_ok ro m (d + 1) _ (vis_ok (st := s) _ kvs (fun z hz => ?_) (List.mem_of_getElem? e) b)
      have hs := b.lt _ (List.mem_of_getElem? e)
      have z2 : z.2 ∈ rows.getD s [] := (List.of_mem_zip (show (z.1, z.2) ∈ _ from hz)).2
      have hm : rows.getD s [] ∈ rows := by
        rw [List.getD_eq_getElem?_getD, List.getElem?_eq_getElem hs]
        exact List.getElem_mem hs
      exact ro.lt _ hm _ z2
theorem roads_ok {x : Str} {rows : List (List Nat)} (ro : RowsOk x rows) : BOk rows.length (roads x rows) :=
  bfs_ok ro _ _ _ ⟨by simp, fun p hp => by simp at hp; subst hp; exact ro.one, fun p hp => by simp at hp; subst hp; exact Nat.zero_lt_one⟩
/-- the states, as numbers -/
def reach (x : Str) (rows : List (List Nat)) : List Int := (roads x rows).map fun p => (p.1 : Int)
def spMre (K : PySem.W.Frag) (C : Addr) : Sp := fun vs H Q _ => ∃ (s : Addr) (x : Str) (rows : List (List Nat)), vs = [.ref s] ∧ IsM K C H s x rows ∧ RowsOk x rows ∧ ∀ (ys : List Int) (H' : Hp) (D : Addr), ys.Perm (reach x rows) → ys.Pairwise (· ≤ ·) → H D = none → Ex H H' → H' D = some (.lst (ys.map V.int)) → Q (.ref D) H'
section
variable {P : Program} {w : World} {K : PySem.W.Frag} {mg : Str → Option Value} {base : Heap} {f C : Addr} {fd : FuncData}
theorem scRe : FnScope ["self"] ["self"] (defScope sMre) := ⟨rfl, rfl, rfl, by decide +kernel, rfl, by decide +kernel, by decide +kernel⟩
theorem ok_mre (F : FunD K "reachable" "Machine.reachable" (defArgs sMre) (defBody sMre) (defScope sMre) [] [] f fd) (gS : mg "sorted" = none) (MC : MCls K C) : FnOk P w K mg base CX0 1 f fd ["self"] (spMre K C) := by
  refine F.ok scRe (fun vs H Q E h => ?_) (fun cdv A outer s H vs Q E hr h => ?_)
  · obtain ⟨s, x, rows, rfl, _⟩ := h
    rfl
  · obtain ⟨s, x, rows, rfl, ⟨dx, r, d, hs, hR, hd⟩, ro, k⟩ := h
    refine ⟨_, PSs.nox (pss_one (ps_ret (pe_callB (call_sortedDI rfl) (by rfl) gS (by decide +kernel) (pa_cons (pe_fld (pv 0) rfl) pa_nil)))), _, rfl, s, C, dx, _, .ref d, rfl, hs, MC.c, MC.d, rfl, d, dkv (roads x rows), reach x rows, rfl, .inl hd, ?_, ?_, fun ys p pe pw hp => ?_⟩
    · simp [dkv, reach, List.map_map, Function.comp_def]
    · have a := (roads_ok ro).few
      have b := ro.most
      simp [reach]
      omega
    · exact k ys _ p pe pw hp (Ex.new hp) upd_same
end
end K03

/-! what repr tells of a machine -/
namespace K03
open PySem L2 Evl OxK
def mRepr (n k : Nat) : Str := (((Str.empty ++ (Str.ofString "Machine(")) ++ (Str.ofString (toString (n : Int))) ++ (Str.ofString " states, ")) ++ (Str.ofString (toString (k : Int)))) ++ (Str.ofString " letters)")
def spMrp (K : PySem.W.Frag) (C : Addr) : Sp := fun vs H Q _ => ∃ (s : Addr) (x : Str) (rows : List (List Nat)), vs = [.ref s] ∧ IsM K C H s x rows ∧ AlphaOk x ∧ RowsOk x rows ∧ ∀ H', Ex H H' → Q (.str (mRepr rows.length x.length)) H'
theorem few_txt : ∀ n : Nat, n < 25 → (Str.ofString (toString (n : Int))).length ≤ 2 := by decide +kernel
theorem len_app (a b : Str) : (a ++ b).length = a.length + b.length := by
  show (a.cps ++ b.cps).size = a.cps.size + b.cps.size
  simp
section
variable {P : Program} {w : World} {K : PySem.W.Frag} {mg : Str → Option Value} {base : Heap} {f C : Addr} {fd : FuncData}
theorem scRp : FnScope ["self"] ["self"] (defScope sMrp) := ⟨rfl, rfl, rfl, by decide +kernel, rfl, by decide +kernel, by decide +kernel⟩
theorem ok_mrp (F : FunD K "__repr__" "Machine.__repr__" (defArgs sMrp) (defBody sMrp) (defScope sMrp) [] [] f fd) (T : NoS mg) (MC : MCls K C) : FnOk P w K mg base CX0 1 f fd ["self"] (spMrp K C) := by
  refine F.ok scRp (fun vs H Q E h => ?_) (fun cdv A outer s H vs Q E hr h => ?_)
  · obtain ⟨s, x, rows, rfl, _⟩ := h
    rfl
  · obtain ⟨s, x, rows, rfl, ⟨dx, r, d, hs, ⟨bs, hB, bl, hR⟩, hd⟩, ax, ro, k⟩ := h
    refine ⟨_, PSs.nox (pss_one (ps_ret (pe_joined (.cons pe_str (.cons (pe_fmt (pe_callB call_len_seq (by rfl) T.len PySem.boot_len (pa_cons (pe_fld (pv 0) rfl) pa_nil))) (.cons pe_str
      (.cons (pe_fmt (pe_callB call_len_str (by rfl) T.len PySem.boot_len (pa_cons (pe_fld (pv 0) rfl) pa_nil))) (.cons pe_str .nil)))))))), ?_⟩
    have hxl : x.length = (sg x).length := by simp [Str.length, sg]
    have x3 := ax.three
    have n24 := ro.most
    have f1 := few_txt rows.length (by omega)
    have f2 := few_txt x.length (by omega)
    have lg : ∀ n : Nat, n < 25 → ((n : Int)).natAbs.log2 < 1920 := by decide +kernel
    have e1 : (Str.ofString "Machine(").length = 8 := by decide +kernel
    have e2 : (Str.ofString " states, ").length = 9 := by decide +kernel
    have e3 : (Str.ofString " letters)").length = 9 := by decide +kernel
    have e0 : (Str.empty).length = 0 := rfl
    have S : ∀ n, n ≤ 100 → n ≤ sizeLine := fun n h => Nat.le_of_lt (small1000 (by omega))
    refine ⟨_, rfl, S _ (by rw [len_app, e0, e1]; decide), ?_⟩
    refine ⟨_, rfl, s, C, dx, _, .ref r, rfl, hs, MC.c, MC.r, rfl, r, bs.map V.ref, rfl, .inr hB, .inr ⟨_, rfl, ?_, _, rfl, ?_, ?_⟩⟩
    · rw [List.length_map, bl]; exact lg _ (by omega)
    · rw [List.length_map, bl]; exact S _ (by rw [len_app, len_app, e0, e1]; omega)
    refine ⟨_, rfl, S _ (by rw [len_app, len_app, len_app, List.length_map, bl, e0, e1, e2]; omega), ?_⟩
    refine ⟨_, rfl, s, C, dx, _, .str x, rfl, hs, MC.c, MC.s, rfl, x, rfl, S _ (by omega), .inr ⟨_, rfl, lg _ (by omega), _, rfl, S _ (by rw [len_app, len_app, len_app, len_app, List.length_map, bl, e0, e1, e2]; omega), ?_⟩⟩
    refine ⟨_, rfl, S _ (by rw [len_app, len_app, len_app, len_app, len_app, List.length_map, bl, e0, e1, e2, e3]; omega), ?_⟩
    rw [List.length_map, bl]
    exact k H (Ex.refl H)
end
end K03

/-! == of an instance (with a dict) by the == of its class: an instance, a list, a tuple, a text, a number or None on the right -/
namespace L2
open PySem PySem.Spec PyProof.Rows Evl
theorem looks_is {M : Model} {s : Shared} {u : Value} {T : String} (h : s.TypeIs u T) : PySem.W.Looks M s.heap (typeOf u) (.type T) := by
  cases u with
  | ref a =>
    obtain ⟨o, ho, hc⟩ := h
    exact hc ▸ (PySem.W.Looks.ld ho).andThen PySem.W.Looks.now
  | _ =>
    intro A Q E s2 _ q
    rw [show typeOf _ = pure (.type T) from h]
    exact wpAny_pure q
/-- the right-hand side: an instance of the class at C', or of the built-in type T -/
inductive RTy (K : PySem.W.Frag) (H : Hp) : V → Value → Prop where
  | ins {b C' dy : Addr} {gs : List (Str × V)} (h : H b = some (.ins C' dy gs)) : RTy K H (.ref b) (.ref C')
  | blt {y : V} {T : String} (h : TyB K H y T) : RTy K H y (.type T)
def rOwnI (K : PySem.W.Frag) (C : Addr) (sp : Sp) (E : XK) : R2 := fun x y H Q => ∃ a dx fs tb, x = .ref a ∧ H a = some (.ins C dx fs) ∧ RTy K H y tb ∧ PySem.W.notFirst K C tb = true ∧ sp [x, y] H Q E
theorem op_ownI {X : Cx} {CX : CXT} {op : CmpOp} {C g : Addr} {n : Nat} {sp : Sp} {E : XK} (hop : ∀ a b, compareOp op a b = richCompare op a b) (hs : PySem.W.findIn X.K (.ref C) (cmpInfo op).2.1 = some (some (.ref g))) (hf : PySem.W.isFn X.K (.ref g) = true) (F : FnR X.prog X.w X.K X.mg X.base CX n g sp)
    (hr : Room n X.A) (hx : Passes CX X E) : OpR X (compareOp op) (rOwnI X.K C sp E) := by
  intro pins s σ H x y v u Q I rx ry h
  obtain ⟨a, dx, fs, tb, rfl, ha, hy, hn, q⟩ := h
  cases (show v = Value.ref a from rx)
  obtain ⟨mA, J, _⟩ := ins_get I.hok ha
  obtain ⟨od, J, _⟩ := J.look
  obtain ⟨m, hF⟩ := I.fr
  have hl : PySem.W.Looks (model X.prog X.w) s.heap (typeOf u) tb := by
    cases hy with
    | @ins b C' dy gs hb =>
      cases (show u = Value.ref b from ry)
      obtain ⟨mB, J', _⟩ := ins_get I.hok hb
      obtain ⟨od', J', _⟩ := J'.look
      exact J'.type
    | blt t => exact looks_is (TyB.is I ry t)
  rw [hop]
  refine PySem.W.cmp_K (op := op) (tb := tb) hr.units0 hF I.ok.mod.kin J hl hn hs hf ?_
  refine wpAny_mono (wpAny_call (run_fnR (us := [.ref a, u]) (vs := [.ref a, y]) F hr hx I (.cons rfl (.cons ry .nil)) q)) (fun w s' z => ?_) fun _ _ x => x
  obtain ⟨z', H', I', rz, qz⟩ := z
  exact SlX.cmpback rz ⟨z', H', I', rz, qz⟩
end L2

/-! != of an instance whose class has its own == and no != : object's, which asks == -/
namespace L2
open PySem PySem.Spec PyProof.Rows Evl
section
variable {M : Model} {prog : Program} {w : World} {A : Around} {E : Value → Shared → Prop} {s : Shared} {K : PySem.W.Frag} {x C f : Addr} {ox : Obj} {od : Option Obj} {b : Value}
theorem ifBound_objNe {args : List Value} {Q : Option Value → Shared → Prop} (X : K.In s.heap) (I : PySem.W.InstAt s.heap x ox C od) (hs : PySem.W.findIn K (.ref C) "__ne__" = some (some (.builtin "object.__ne__")))
    (h : wpAny M A (call (.builtin "object.__ne__") (.ref x :: args)) (fun v => Q (some v)) E s) : wpAny M A (callSpecialIfBound? (.ref x) "__ne__" args) Q E s := by
  simp only [callSpecialIfBound?, bindSpecialIfBound?]
  refine wpAny_holding (wpAny_bind (wpAny_bind (wpAny_bind (I.type.here ((PySem.W.looks_findIn X hs).here ?_)))))
  refine wpAny_bind (wpAny_askSetting (wpAny_ite ?_))
  have fin : wpAny M A (call (.builtin "object.__ne__") ([.ref x] ++ args) >>= fun v => pure (some v)) Q E s := wpAny_bind (wpAny_mono h (fun v s' h' => wpAny_pure h') fun _ _ h' => h')
  split
  · exact wpAny_bind (wpAny_of_eq (F.cmp_object.ne.bind _) (wpAny_pure (by exact fin)))
  · exact wpAny_tryCatch (wpAny_bind (wpAny_of_eq (F.cmp_object.ne.bind _) (wpAny_pure (by exact fin))))
theorem entry_ne {Q : Fin → Shared → Prop} (hu : A.units < cLine) (X : K.In s.heap) (I : PySem.W.InstAt s.heap x ox C od) (hs : PySem.W.findIn K (.ref C) "__eq__" = some (some (.ref f))) (hf : PySem.W.isFn K (.ref f) = true)
    (h : wpAny M A (call (.ref f) [.ref x, b]) (fun v s' => ∃ r : Bool, v = .bool r ∧ Q (.done (.ret (.bool (!r)))) s') E s) : wpAny M A (Builtin.«object.__ne__» ⟨[.ref x, b], []⟩) Q E s := by
  unfold Builtin.«object.__ne__»
  have key : ∀ k : Option Value → Sem Fin, (∀ (r : Bool) s', Q (.done (.ret (.bool (!r)))) s' → wpAny M A (k (some (.bool r))) Q E s') → wpAny M A (callSpecialIfBound? (.ref x) "__eq__" [b] >>= k) Q E s := fun k hk =>
    wpAny_bind (PySem.W.ifBound_K X I hs hf (wpAny_mono h (fun v s' ⟨r, e, q⟩ => by subst e; exact hk r s' q) fun _ _ e => e))
  repeat (first | with_reducible refine wpAny_cRoomFor hu ?_ | with_reducible refine key _ ?_ | wp_step)
  intro r s' q
  repeat (first | with_reducible refine wpAny_truthy_bool ?_ | wp_step)
  exact q
theorem call_objNe {Q : Value → Shared → Prop} (hu : A.units + 1 < cLine) (X : K.In s.heap) (I : PySem.W.InstAt s.heap x ox C od) (hm : PySem.W.mroIn K C (.type "object") = some true) (hs : PySem.W.findIn K (.ref C) "__eq__" = some (some (.ref f))) (hf : PySem.W.isFn K (.ref f) = true)
    (h : wpAny (model prog w) A.in1 (call (.ref f) [.ref x, b]) (fun v s' => ∃ r : Bool, v = .bool r ∧ Q (.bool (!r)) s') E s) :
    wpAny (model prog w) A (call (.builtin "object.__ne__") [.ref x, b]) Q E s :=
  wpAny_call (codeAny_call_builtin F.cmp_object.ne.plain F.cmpEntry_ne (PySem.W.check_slot F.cmpKind_ne F.cmpSplit_ne (I.type.andThen (PySem.W.looks_mroIn X hm)) (F.cmpArgs_ne _ _) (entry_ne (A := A.in1) hu X I hs hf h)))
theorem rc_ne {tb : Value} {Q : Value → Shared → Prop} (hu : A.units + 1 < cLine) (X : K.In s.heap) (I : PySem.W.InstAt s.heap x ox C od) (hb : PySem.W.Looks (model prog w) s.heap (typeOf b) tb) (hn : PySem.W.notFirst K C tb = true)
    (hm : PySem.W.mroIn K C (.type "object") = some true) (hne : PySem.W.findIn K (.ref C) "__ne__" = some (some (.builtin "object.__ne__"))) (hs : PySem.W.findIn K (.ref C) "__eq__" = some (some (.ref f))) (hf : PySem.W.isFn K (.ref f) = true)
    (h : wpAny (model prog w) A.in1 (call (.ref f) [.ref x, b]) (fun v s' => ∃ r : Bool, v = .bool r ∧ Q (.bool (!r)) s') E s) : wpAny (model prog w) A (richCompare .NotEq (.ref x) b) Q E s := by
  have one : wpAny (model prog w) A (tryCompare (.ref x) "__ne__" b) (fun r s' => ∃ v, r = some v ∧ Q v s') E s := by
    unfold tryCompare
    refine wpAny_bind (ifBound_objNe X I hne (call_objNe hu X I hm hs hf (wpAny_mono h (fun v s' hv => ?_) fun _ _ e => e)))
    obtain ⟨r, e, q⟩ := hv
    exact ⟨r, e, wpAny_pure ⟨_, rfl, q⟩⟩
  have hu0 : A.units < cLine := Nat.lt_of_succ_lt hu
  simp only [richCompare, cmpInfo_NotEq, oneThing_ref]
  refine wpAny_holding (wpAny_bind (wpAny_cRoomFor hu0 ?_))
  refine wpAny_bind (I.type.here (wpAny_bind (hb.here ?_)))
  split
  · rename_i q
    have e : PySem.W.subIn K tb (.ref C) = some false := by
      rcases Bool.or_eq_true_iff.mp hn with e | e
      · rw [beq_iff_eq.mp e] at q; simp at q
      · exact beq_iff_eq.mp e
    refine wpAny_bind ((PySem.W.looks_subIn X e).here ?_)
    simp only [Bool.false_eq_true, if_false]
    refine wpAny_bind (wpAny_mono one (fun r s' z => ?_) fun _ _ e => e)
    obtain ⟨v, rfl, hq⟩ := z
    exact wpAny_pure hq
  · refine wpAny_bind (wpAny_pure ?_)
    simp only [Bool.false_eq_true, if_false]
    refine wpAny_bind (wpAny_mono one (fun r s' z => ?_) fun _ _ e => e)
    obtain ⟨v, rfl, hq⟩ := z
    exact wpAny_pure hq
end
/-- x != y by the == of the class -/
def rNeOwnI (K : PySem.W.Frag) (C : Addr) (sp : Sp) (E : XK) : R2 := fun x y H Q => ∃ a dx fs tb, x = .ref a ∧ H a = some (.ins C dx fs) ∧ RTy K H y tb ∧ PySem.W.notFirst K C tb = true ∧ sp [x, y] H (fun z H' => ∃ r : Bool, z = .bl r ∧ Q (.bl (!r)) H') E
theorem op_neOwnI {X : Cx} {CX : CXT} {C g : Addr} {n : Nat} {sp : Sp} {E : XK} (hm : PySem.W.mroIn X.K C (.type "object") = some true) (hne : PySem.W.findIn X.K (.ref C) "__ne__" = some (some (.builtin "object.__ne__"))) (hs : PySem.W.findIn X.K (.ref C) "__eq__" = some (some (.ref g)))
    (hf : PySem.W.isFn X.K (.ref g) = true) (F : FnR X.prog X.w X.K X.mg X.base CX n g sp) (hr : Room (n + 1) X.A) (hx : Passes CX X E) : OpR X (compareOp .NotEq) (rNeOwnI X.K C sp E) := by
  intro pins s σ H x y v u Q I rx ry h
  obtain ⟨a, dx, fs, tb, rfl, ha, hy, hn, q⟩ := h
  cases (show v = Value.ref a from rx)
  obtain ⟨mA, J, _⟩ := ins_get I.hok ha
  obtain ⟨od, J, _⟩ := J.look
  have hl : PySem.W.Looks (model X.prog X.w) s.heap (typeOf u) tb := by
    cases hy with
    | @ins b C' dy gs hb =>
      cases (show u = Value.ref b from ry)
      obtain ⟨mB, J', _⟩ := ins_get I.hok hb
      obtain ⟨od', J', _⟩ := J'.look
      exact J'.type
    | blt t => exact looks_is (TyB.is I ry t)
  have hu := Nat.lt_of_le_of_lt (Nat.add_le_add_left (show 1 ≤ 64 by decide) _) hr.units
  show wpAny (model X.prog X.w) X.A (richCompare .NotEq (.ref a) u) _ _ _
  refine rc_ne hu I.kIn J hl hn hm hne hs hf ?_
  refine wpAny_mono (wpAny_call (SlX.run_at (us := [.ref a, u]) (ws := [.ref a, y]) F hr.in1 I.env0.in1 hx I (.cons rfl (.cons ry .nil)) q)) (fun w s' z => ?_) fun _ _ x => x
  obtain ⟨z', H', I', rz, r, ez, qz⟩ := z
  subst ez
  cases rz
  exact ⟨r, rfl, .bl (!r), H', I', rfl, qz⟩
end L2

/-! when machines are equal -/
namespace K03
open PySem L2 Evl OxK
/-- rows as data: tuples of tuples, lists of lists -/
def rowsT (rows : List (List Nat)) : PyData := .tuple (rows.map fun row => .tuple (row.map fun g : Nat => .int (g : Int)))
theorem eqv_row : ∀ a b : List Nat, PyData.eqvAll (a.map fun g : Nat => .int (g : Int)) (b.map fun g : Nat => .int (g : Int)) = decide (a = b)
  | [], [] => by simp [PyData.eqvAll]
  | [], _ :: _ => by simp [PyData.eqvAll]
  | _ :: _, [] => by simp [PyData.eqvAll]
  | x :: a, y :: b => by
    have ih := eqv_row a b
    simp only [List.map_cons, PyData.eqvAll, PyData.eqv, ih]
    rw [Bool.eq_iff_iff]
    simp
    intro _
    omega
theorem eqv_rows : ∀ a b : List (List Nat), PyData.eqvAll (a.map fun row => .tuple (row.map fun g : Nat => .int (g : Int))) (b.map fun row => .tuple (row.map fun g : Nat => .int (g : Int))) = decide (a = b)
  | [], [] => by simp [PyData.eqvAll]
  | [], _ :: _ => by simp [PyData.eqvAll]
  | _ :: _, [] => by simp [PyData.eqvAll]
  | x :: a, y :: b => by
    have ih := eqv_rows a b
    have ix := eqv_row x y
    simp only [List.map_cons, PyData.eqvAll, PyData.eqv, ih, ix]
    rw [Bool.eq_iff_iff]
    simp
theorem eqv_rowsT (a b : List (List Nat)) : PyData.eqv (rowsT a) (rowsT b) = decide (a = b) := by
  show PyData.eqv (.tuple _) (.tuple _) = _
  rw [PyData.eqv]
  exact eqv_rows a b
theorem lay_row : ∀ a : List Nat, PyData.canLayAll0 (a.map fun g : Nat => .int (g : Int)) = true ∧ PyData.depthAll (a.map fun g : Nat => .int (g : Int)) = 0
  | [] => by simp [PyData.canLayAll0, PyData.depthAll]
  | x :: a => by
    obtain ⟨h1, h2⟩ := lay_row a
    simp [PyData.canLayAll0, PyData.canLay0, PyData.depthAll, PyData.depth, h1, h2]
theorem lay_rows : ∀ a : List (List Nat), PyData.canLayAll0 (a.map fun row => .tuple (row.map fun g : Nat => .int (g : Int))) = true ∧ PyData.depthAll (a.map fun row => .tuple (row.map fun g : Nat => .int (g : Int))) ≤ 1
  | [] => by simp [PyData.canLayAll0, PyData.depthAll]
  | x :: a => by
    obtain ⟨h1, h2⟩ := lay_rows a
    obtain ⟨h3, h4⟩ := lay_row x
    refine ⟨?_, ?_⟩
    · simp only [List.map_cons, PyData.canLayAll0, PyData.canLay0, h1, h3]
      rfl
    · simp only [List.map_cons, PyData.depthAll, PyData.depth, h4]
      omega
theorem shaped_rowsT (a : List (List Nat)) : SeqAt.shaped (rowsT a) = true := by
  obtain ⟨h1, h2⟩ := lay_rows a
  unfold SeqAt.shaped rowsT
  simp only [PyData.canLay0, PyData.depth, h1]
  simp
  omega
theorem dp_row {K : PySem.W.Frag} {H : Hp} : ∀ row : List Nat, DpAll K H (row.map fun g : Nat => V.int (g : Int)) (row.map fun g : Nat => PyData.int (g : Int))
  | [] => .nil
  | g :: r => .cons (.int _) (dp_row r)
theorem dp_rows {K : PySem.W.Frag} {H : Hp} : ∀ (bs : List Addr) (rows : List (List Nat)), bs.length = rows.length → (∀ (i : Nat) (b : Addr) (row : List Nat), bs[i]? = some b → rows[i]? = some row → SqT K H b (row.map fun g : Nat => V.int (g : Int))) →
    DpAll K H (bs.map V.ref) (rows.map fun row => PyData.tuple (row.map fun g : Nat => PyData.int (g : Int)))
  | [], [], _, _ => .nil
  | [], _ :: _, h, _ => nomatch h
  | _ :: _, [], h, _ => nomatch h
  | b :: bs, row :: rows, h, k => .cons (.tup (k 0 b row rfl rfl) (dp_row row)) (dp_rows bs rows (Nat.succ.inj h) fun i b' row' h1 h2 => k (i + 1) b' row' h1 h2)
theorem dp_rws {K : PySem.W.Frag} {H : Hp} {r : Addr} {rows : List (List Nat)} (h : Rws K H r rows) : Dp K H (.ref r) (rowsT rows) := by
  obtain ⟨bs, hB, bl, hR⟩ := h
  exact .tup hB (dp_rows bs rows bl hR)
/-- what isinstance needs of the class -/
structure MIs (K : PySem.W.Frag) (C : Addr) : Prop where
  ty : ∀ (H : Hp) (a dx : Addr) (fs : List (Str × V)), H a = some (.ins C dx fs) → TyX K H (.ref a) (.ref C)
  cc : PySem.W.kitOne K (.ref C) (.ref C) = some true
/-- another machine; or a thing of another type -/
def spMeq (K : PySem.W.Frag) (C : Addr) : Sp := fun vs H Q _ => ∃ (s : Addr) (x : Str) (rows : List (List Nat)) (y : V), vs = [.ref s, y] ∧ IsM K C H s x rows ∧
  ((∃ (b : Addr) (x2 : Str) (rows2 : List (List Nat)), y = .ref b ∧ IsM K C H b x2 rows2 ∧ ∀ H', Ex H H' → Q (.bl (decide (x = x2) && decide (rows = rows2))) H') ∨
   (∃ t, TyX K H y t ∧ PySem.W.kitOne K t (.ref C) = some false ∧ ∀ H', Ex H H' → Q (.bl false) H'))
section
variable {P : Program} {w : World} {K : PySem.W.Frag} {mg : Str → Option Value} {base : Heap} {f C : Addr} {fd : FuncData}
theorem scEq : FnScope ["self", "other"] ["self", "other"] (defScope sMeq) := ⟨rfl, rfl, rfl, by decide +kernel, rfl, by decide +kernel, by decide +kernel⟩
theorem ok_meq (F : FunD K "__eq__" "Machine.__eq__" (defArgs sMeq) (defBody sMeq) (defScope sMeq) [] [] f fd) (T : NoS mg) (gC : mg "Machine" = some (.ref C)) (MC : MCls K C) (MI : MIs K C) : FnOk P w K mg base CX0 1 f fd ["self", "other"] (spMeq K C) := by
  refine F.ok scEq (fun vs H Q E h => ?_) (fun cdv A outer s H vs Q E hr h => ?_)
  · obtain ⟨s, x, rows, y, rfl, _⟩ := h
    rfl
  · obtain ⟨s, x, rows, y, rfl, ⟨dx, r, d, hs, hR, hd⟩, h⟩ := h
    refine ⟨_, PSs.nox (pss_one (ps_ret (pe_and (pe_callB call_isi (by rfl) T.b.isi PyProof.Rows.boot_isinstance (pa_cons (pv 1) (pa_cons (pe_glob (v := .ref C) rfl gC rfl) pa_nil)))
      (pe_and (pe_cmpR op_eq (pe_fld (pv 0) rfl) (pe_fld (pv 1) rfl) (nomark _)) (pe_one (pe_cmpR (op_eqD hr.units) (pe_fld (pv 0) rfl) (pe_fld (pv 1) rfl) (nomark _))))))), ?_⟩
    rcases h with ⟨b, x2, rows2, rfl, ⟨dx2, r2, d2, hs2, hR2, hd2⟩, k⟩ | ⟨t, ty, hk, k⟩
    · refine ⟨_, rfl, _, _, _, _, true, rfl, .own C, MI.ty H b dx2 _ hs2, MI.cc, true, rfl, iteT ?_⟩
      refine ⟨_, rfl, s, C, dx, _, .str x, rfl, hs, MC.c, MC.s, rfl, _, rfl, b, C, dx2, _, .str x2, rfl, hs2, MC.c, MC.s, rfl, rfl, _, rfl, ?_⟩
      have kk := k H (Ex.refl H)
      by_cases q : x = x2
      · have z1 : decide (V.str x = V.str x2) = true := decide_eq_true (by rw [q])
        rw [z1]
        refine iteT ⟨_, rfl, s, C, dx, _, .ref r, rfl, hs, MC.c, MC.r, rfl, _, rfl, b, C, dx2, _, .ref r2, rfl, hs2, MC.c, MC.r, rfl, rowsT rows, rowsT rows2, dp_rws hR, dp_rws hR2, shaped_rowsT _, shaped_rowsT _, ?_⟩
        rw [eqv_rowsT]
        rw [decide_eq_true q, Bool.true_and] at kk
        exact kk
      · have z1 : decide (V.str x = V.str x2) = false := decide_eq_false (by intro z; cases z; exact q rfl)
        rw [z1]
        rw [decide_eq_false q, Bool.false_and] at kk
        exact iteF kk
    · exact ⟨_, rfl, _, _, _, _, false, rfl, .own C, ty, hk, false, rfl, iteF (k H (Ex.refl H))⟩
end
end K03

/-! the law's draws of alphabets -/
namespace K03
open PySem L2 Evl OxK
/-- all but b stands, new things may have come -/
def ExB (b : Addr) (H H' : Hp) : Prop := ∀ c o, c ≠ b → H c = some o → H' c = some o
theorem Ex.exB {b : Addr} {H H' : Hp} (e : Ex H H') : ExB b H H' := fun c o _ h => e c o h
theorem But.exB {b : Addr} {H H' : Hp} (e : But b H H') : ExB b H H' := fun c o n h => by rw [e c n]; exact h
theorem ExB.trans {b : Addr} {H H1 H2 : Hp} (e : ExB b H H1) (e' : ExB b H1 H2) : ExB b H H2 := fun c o n h => e' c o n (e c o n h)
theorem bag_ex {H H' : Hp} {b l : Addr} {ns : List Int} (B : Bag H b l ns) (e : Ex H H') : Bag H' b l ns := by
  obtain ⟨n, hl, hn, i, j, s, hb, r⟩ := B
  exact ⟨n, e _ _ hl, hn, i, j, s, e _ _ hb, r⟩
def five5 : List Str := [Str.ofString "ab", Str.ofString "ab", Str.ofString "xz", Str.ofString "a", Str.ofString "bcd"]
def spSg : Sp := fun vs H Q _ => ∃ (b l : Addr) (ns : List Int), vs = [.ref b] ∧ Bag H b l ns ∧ ∀ (x : Str) (H' : Hp), x ∈ five5 → Bag H' b l ns → ExB b H H' → Q (.str x) H'
theorem alpha5 : ∀ x ∈ five5, AlphaOk x := by
  have key : ∀ x ∈ five5, 1 ≤ (sg x).length ∧ (sg x).length ≤ 3 ∧ (∀ c ∈ sg x, 97 ≤ c ∧ c ≤ 122) ∧ (sg x).Pairwise (· < ·) := by decide +kernel
  intro x hx
  obtain ⟨h1, h3, hl, hp⟩ := key x hx
  refine ⟨h1, h3, fun k a b p q => ?_, hl⟩
  obtain ⟨hk, e1⟩ := List.getElem?_eq_some_iff.mp p
  obtain ⟨hk2, e2⟩ := List.getElem?_eq_some_iff.mp q
  rw [← e1, ← e2]
  exact List.pairwise_iff_getElem.mp hp k (k + 1) hk hk2 (Nat.lt_succ_self k)
section
variable {P : Program} {w : World} {K : PySem.W.Frag} {mg : Str → Option Value} {base : Heap} {f : Addr} {fd : FuncData}
theorem scSg : FnScope ["_law_bag_here"] ["_law_bag_here"] (defScope sSg) := ⟨rfl, rfl, rfl, by decide +kernel, rfl, by decide +kernel, by decide +kernel⟩
theorem ok_sg {fO fP : Addr} {fdO fdP : FuncData} (F : FnP K "_law_signs" sSg f fd) (FO : FnP K "_law_of" sOf fO fdO) (FP : FnP K "_law_pull" sPull fP fdP) (gO : mg "_law_of" = some (.ref fO)) (gP : mg "_law_pull" = some (.ref fP)) (gL : mg "len" = none) (gI : mg "int" = none) :
    FnOk P w K mg base CX0 3 f fd ["_law_bag_here"] spSg := by
  have GO : FnOk P w K mg base CX0 2 fO fdO ["_law_bag_here", "_law_things"] (spOf K) := ok_of FO FP gP gL gI
  have bO : Binds K fdO ["_law_bag_here", "_law_things"] [] := FO.bindsN fun _ _ _ _ _ _ us hl => match us, hl with | [_, _], _ => rfl
  refine F.ok scSg (fun vs H Q E h => ?_) (fun cdv A outer s H vs Q E hr h => ?_)
  · obtain ⟨b, l, ns, rfl, _⟩ := h
    rfl
  · obtain ⟨b, l, ns, rfl, hB, k⟩ := h
    refine ⟨_, PSs.nox (pss_one (ps_ret (pe_call GO hr rfl gO FO.kp bO .nil pass0 (pa_cons (pv 0) (pa_cons (pe_lst (pa_cons pe_str (pa_cons pe_str (pa_cons pe_str (pa_cons pe_str (pa_cons pe_str pa_nil)))))) pa_nil))))), ?_⟩
    refine ⟨_, rfl, (by show 5 ≤ sizeLine; decide), fun t ht => ?_⟩
    have hb : ∃ o, H b = some o := by
      obtain ⟨n, hl, hn, i, j, s, hb, r⟩ := hB
      exact ⟨_, hb⟩
    obtain ⟨ob, hb⟩ := hb
    have nbt : t ≠ b := by
      intro z
      rw [z, hb] at ht
      cases ht
    refine ⟨b, l, t, ns, five5.map V.str, rfl, SqL.of upd_same, by decide, by decide, nbt, fun H' e => SqL.of (by rw [e t nbt]; exact upd_same), bag_ex hB (Ex.new ht), fun i v H' hv hB' hk => ?_⟩
    rw [List.getElem?_map] at hv
    cases e : five5[i]? with
    | none => rw [e] at hv; cases hv
    | some x =>
      rw [e] at hv
      obtain rfl := Option.some.inj hv
      exact k x H' (List.mem_of_getElem? e) hB' ((Ex.exB (Ex.new ht)).trans hk.exB)
end
end K03

/-! models -/
namespace K03
open PySem L2 Evl OxK
/-- a model: the alphabet and the rows, a tuple of a text and a list of lists -/
def Mod (H : Hp) (m : Addr) (x : Str) (rows : List (List Nat)) : Prop := ∃ (L : Addr) (ls : List Addr), H m = some (.tup [.str x, .ref L]) ∧ H L = some (.lst (ls.map V.ref)) ∧ ls.length = rows.length ∧
  ∀ (i : Nat) (a : Addr) (row : List Nat), ls[i]? = some a → rows[i]? = some row → H a = some (.lst (rowV row))
theorem mod_ex {H H' : Hp} {m : Addr} {x : Str} {rows : List (List Nat)} (h : Mod H m x rows) (e : Ex H H') : Mod H' m x rows := by
  obtain ⟨L, ls, hm, hL, ll, hls⟩ := h
  exact ⟨L, ls, e _ _ hm, e _ _ hL, ll, fun i a row h1 h2 => e _ _ (hls i a row h1 h2)⟩
end K03

/-! a letter drawn from a text -/
namespace K03
open PySem L2 Evl OxK
def spOfS : Sp := fun vs H Q _ => ∃ (b l : Addr) (ns : List Int) (x : Str), vs = [.ref b, .str x] ∧ 0 < x.length ∧ x.length < 1000 ∧ Bag H b l ns ∧
  ∀ (k : Nat) (c : Nat) (H' : Hp), (sg x)[k]? = some c → Bag H' b l ns → But b H H' → Q (.str ⟨#[c]⟩) H'
section
variable {P : Program} {w : World} {K : PySem.W.Frag} {mg : Str → Option Value} {base : Heap} {f : Addr} {fd : FuncData}
theorem ok_ofS {fP : Addr} {fdP : FuncData} (F : FnP K "_law_of" sOf f fd) (FP : FnP K "_law_pull" sPull fP fdP) (gP : mg "_law_pull" = some (.ref fP)) (gL : mg "len" = none) (gI : mg "int" = none) :
    FnOk P w K mg base CX0 2 f fd ["_law_bag_here", "_law_things"] spOfS := by
  have GP : FnOk P w K mg base CX0 1 fP fdP ["_law_bag_here", "_law_amount"] spPull := ok_pull FP gL gI
  have bP : Binds K fdP ["_law_bag_here", "_law_amount"] [] := FP.bindsN fun _ _ _ _ _ _ us hl => match us, hl with | [_, _], _ => rfl
  refine F.ok scO (fun vs H Q E h => ?_) (fun cdv A outer s H vs Q E hr h => ?_)
  · obtain ⟨b, l, ns, x, rfl, _⟩ := h
    rfl
  · obtain ⟨b, l, ns, x, rfl, h0, h1, hB, k⟩ := h
    refine ⟨_, PSs.nox (pss_one (ps_ret (pe_ix ix_str (pv 1) (pe_call GP hr rfl gP FP.kp bP .nil pass0 (pa_cons (pv 0) (pa_cons (pe_callB call_len_str (by rfl) gL PySem.boot_len (pa_cons (pv 1) pa_nil)) pa_nil))) (fun _ _ => rfl)))), ?_⟩
    have hS : x.length ≤ sizeLine := Nat.le_of_lt (small1000 (by omega))
    have hl : x.length = (sg x).length := by simp [Str.length, sg]
    refine ⟨_, rfl, _, rfl, _, rfl, x, rfl, hS, b, l, ns, _, rfl, by omega, by omega, hB, fun r H' r0 r1 hB' hk => ?_⟩
    obtain ⟨n, rfl⟩ : ∃ n : Nat, r = (n : Int) := ⟨r.toNat, by omega⟩
    have hn : n < (sg x).length := by omega
    exact ⟨x, (n : Int), (sg x)[n], rfl, rfl, hS, atI_nat (List.getElem?_eq_getElem hn), k n _ H' (List.getElem?_eq_getElem hn) hB' hk⟩
end
end K03

/-! a drawn model -/
namespace K03
open PySem L2 Evl OxK
def spDr : Sp := fun vs H Q _ => ∃ (b l : Addr) (ns : List Int) (x : Str) (n : Nat), vs = [.ref b, .str x, .int (n : Int)] ∧ 1 ≤ n ∧ n ≤ 24 ∧ x.length < 1000 ∧ Bag H b l ns ∧
  ∀ (m : Addr) (rows : List (List Nat)) (H' : Hp), rows.length = n → (∀ row ∈ rows, row.length = (sg x).length ∧ ∀ g ∈ row, g < n) → Mod H' m x rows → Bag H' b l ns → ExB b H H' → Q (.ref m) H'
section
variable {P : Program} {w : World} {K : PySem.W.Frag} {mg : Str → Option Value} {base : Heap} {f : Addr} {fd : FuncData}
theorem scDr : FnScope ["_law_bag_here", "_law_signs_here", "_law_size", "_law_state_z", "_law_sign"] ["_law_bag_here", "_law_signs_here", "_law_size"] (defScope sDr) := ⟨rfl, rfl, rfl, by decide +kernel, rfl, by decide +kernel, by decide +kernel⟩
theorem ok_dr {fP : Addr} {fdP : FuncData} (F : FnP K "_law_drawn" sDr f fd) (FP : FnP K "_law_pull" sPull fP fdP) (gP : mg "_law_pull" = some (.ref fP)) (gL : mg "len" = none) (gI : mg "int" = none) (gR : mg "range" = none) :
    FnOk P w K mg base CX0 2 f fd ["_law_bag_here", "_law_signs_here", "_law_size"] spDr := by
  have GP : FnOk P w K mg base CX0 1 fP fdP ["_law_bag_here", "_law_amount"] spPull := ok_pull FP gL gI
  have bP : Binds K fdP ["_law_bag_here", "_law_amount"] [] := FP.bindsN fun _ _ _ _ _ _ us hl => match us, hl with | [_, _], _ => rfl
  refine F.ok scDr (fun vs H Q E h => ?_) (fun cdv A outer s H vs Q E hr h => ?_)
  · obtain ⟨b, l, ns, x, n, rfl, _⟩ := h
    rfl
  · obtain ⟨b, l, ns, x, n, rfl, n1, n24, x1, hB, k⟩ := h
    refine ⟨_, PSs.nox (pss_one (ps_ret (pe_tup (pa_cons (pv 1) (pa_cons (pe_lc (own := [("_law_state_z", 3)]) (g := gName 3) (tt := tYes) (by rfl) scDr.nd (pi_range1 (by rfl) gR (pa_cons (pv 2) pa_nil)) (blkOk_by (own := [("_law_state_z", 3)]) (N := ["_law_bag_here", "_law_signs_here", "_law_size", "_law_state_z", "_law_sign"]) (sc := defScope sDr) (by decide +kernel))
      (fun _ _ _ _ _ => pg_name (i := 3) scDr.nd rfl (Or.inl rfl)) (fun _ _ _ _ _ => pts_nil)
      (fun _ _ _ _ _ => pe_lc (own := [("_law_sign", 4)]) (g := gName 4) (tt := tYes) (by rfl) scDr.nd (pi_str (pv 1)) (blkOk_by (own := [("_law_sign", 4)]) (by rfl))
        (fun _ _ _ _ _ => pg_name (i := 4) scDr.nd rfl (Or.inl rfl)) (fun _ _ _ _ _ => pts_nil) (fun _ _ _ _ _ => pe_call GP hr rfl gP FP.kp bP .nil pass0 (pa_cons (pv 0) (pa_cons (pv 2) pa_nil))))) pa_nil))))), ?_⟩
    have hxl : x.length = (sg x).length := by simp [Str.length, sg]
    have hxc : x.cps.size = (sg x).length := by simp [sg]
    refine ⟨_, rfl, _, rfl, (n : Int), rfl, (by show -(2 ^ 62 : Int) ≤ (n : Int); omega), (by show (n : Int) < 2 ^ 62; omega), fun D hD => ?_⟩
    have bD : b ≠ D := by
      obtain ⟨_, _, _, i, j, s, hb, _⟩ := hB
      exact ne_of_none hb hD
    refine lc_any (J := Itr 0 (n : Int).toNat) (n := n) (fun i H' => ∃ (rows : List (List Nat)) (ls : List Addr), rows.length = i ∧ ls.length = i ∧ H' D = some (.lst (ls.map V.ref)) ∧ (∀ row ∈ rows, row.length = (sg x).length ∧ ∀ g ∈ row, g < n) ∧
        (∀ (j : Nat) (a : Addr) (row : List Nat), ls[j]? = some a → rows[j]? = some row → H' a = some (.lst (rowV row)) ∧ a ≠ D ∧ a ≠ b) ∧ Bag H' b l ns ∧ ExB b H H')
      ⟨[], [], rfl, rfl, upd_same, (fun _ h => nomatch h), (fun j a row h => nomatch h), bag_ex hB (Ex.new hD), Ex.exB (Ex.new hD)⟩ (fun i H' hi _ => (show i < (n : Int).toNat by omega)) (fun H' _ => (show (n : Int).toNat ≤ n by omega)) ?_ ?_
    · rintro i H4 y H5 hi ⟨rows, ls, rl, ll, hDl, hrow, hls, hB4, e4⟩ ⟨rfl, rfl⟩
      refine ⟨rfl, tt_yes ⟨_, rfl, x, rfl, fun D2 hD2 => ?_⟩⟩
      have b2 : b ≠ D2 := by
        obtain ⟨_, _, _, i, j, s, hb, _⟩ := hB4
        exact ne_of_none hb hD2
      refine lc_any (J := Its x) (n := (sg x).length) (fun k H' => ∃ row : List Nat, row.length = k ∧ (∀ g ∈ row, g < n) ∧ H' D2 = some (.lst (rowV row)) ∧ Bag H' b l ns ∧ ExB b H5 H')
        ⟨[], rfl, (fun _ h => nomatch h), upd_same, bag_ex hB4 (Ex.new hD2), Ex.exB (Ex.new hD2)⟩ (fun k H' hk _ => (show k < x.cps.size by omega)) (fun H' _ => (show x.cps.size ≤ (sg x).length by omega)) ?_ ?_
      · rintro k2 H6 y2 H7 hk2 ⟨row, rl2, hg, hD6, hB6, e6⟩ ⟨rfl, c, hc, rfl⟩
        refine ⟨rfl, tt_yes ⟨_, rfl, _, rfl, b, l, ns, (n : Int), rfl, by omega, by omega, hB6, fun r H8 r0 r1 hB8 h8 => ?_⟩⟩
        obtain ⟨g, rfl⟩ : ∃ g : Nat, r = (g : Int) := ⟨r.toNat, by omega⟩
        have hD8 : H8 D2 = some (.lst (rowV row)) := by rw [h8 D2 b2.symm]; exact hD6
        refine ⟨_, hD8, small1000 (by simp [rowV]; omega), row ++ [g], by simp [rl2], fun g2 h2 => ?_, ?_, ?_, ?_⟩
        · rcases List.mem_append.mp h2 with q | q
          · exact hg g2 q
          · simp at q; omega
        · rw [upd_same]; simp [rowV]
        · obtain ⟨q1, q2, q3, i', j', s', q4, q5⟩ := hB8
          have nl : l ≠ D2 := by
            intro z
            obtain ⟨_, p2, _⟩ := hB4
            rw [z, hD2] at p2
            cases p2
          exact ⟨q1, by rw [upd_ne nl]; exact q2, q3, i', j', s', by rw [upd_ne b2]; exact q4, q5⟩
        · intro c2 o2 nc hc2
          have ncD : c2 ≠ D2 := ne_of_none hc2 hD2
          rw [upd_ne ncD, h8 c2 nc]
          exact e6 c2 o2 nc hc2
      · rintro H6 ⟨row, rl2, hg, hD6, hB6, e6⟩
        have nDD : D ≠ D2 := ne_of_none hDl hD2
        have hD6' := e6 D _ bD.symm hDl
        refine ⟨_, hD6', small1000 (by rw [List.length_map]; omega), rows ++ [row], ls ++ [D2], by simp [rl], by simp [ll], ?_, ?_, ?_, ?_, ?_⟩
        · rw [upd_same, List.map_append]; rfl
        · intro row2 h2
          rcases List.mem_append.mp h2 with q | q
          · exact hrow row2 q
          · simp at q; subst q; exact ⟨rl2, hg⟩
        · intro j a row2 hj hr2
          by_cases q : j < ls.length
          · rw [List.getElem?_append_left q] at hj
            rw [List.getElem?_append_left (by omega)] at hr2
            obtain ⟨w1, w2, w3⟩ := hls j a row2 hj hr2
            exact ⟨by rw [upd_ne w2]; exact e6 a _ w3 w1, w2, w3⟩
          · rw [List.getElem?_append_right (by omega)] at hj hr2
            have q2 : j = ls.length := by
              have := (List.getElem?_eq_some_iff.mp hj).1
              simp at this
              omega
            subst q2
            have q3 : ls.length - rows.length = 0 := by omega
            rw [q3] at hr2
            simp at hj hr2
            subst hj hr2
            exact ⟨by rw [upd_ne nDD.symm]; exact hD6, nDD.symm, b2.symm⟩
        · obtain ⟨q1, q2, q3, i', j', s', q4, q5⟩ := hB6
          have nl : l ≠ D := by
            intro z
            obtain ⟨_, p2, _⟩ := hB
            rw [z, hD] at p2
            cases p2
          exact ⟨q1, by rw [upd_ne nl]; exact q2, q3, i', j', s', by rw [upd_ne bD]; exact q4, q5⟩
        · intro c2 o2 nc hc2
          have ncD : c2 ≠ D := ne_of_none hc2 hD
          rw [upd_ne ncD]
          exact e6 c2 o2 nc (e4 c2 o2 nc hc2)
    · rintro H4 ⟨rows, ls, rl, ll, hDl, hrow, hls, hB4, e4⟩
      refine ⟨(by show 2 ≤ sizeLine; decide), fun p hp => ?_⟩
      have ep : Ex H4 (upd H4 p (.tup [.str x, .ref D])) := Ex.new hp
      exact k p rows _ rl hrow ⟨D, ls, upd_same, ep _ _ hDl, by omega, fun j a row h1 h2 => ep _ _ (hls j a row h1 h2).1⟩ (bag_ex hB4 ep) (e4.trans (Ex.exB ep))
end
end K03

/-! a model by one of four ways -/
namespace K03
open PySem L2 Evl OxK
/-- what a drawn model is -/
def TblK (b l : Addr) (ns : List Int) (x : Str) (n : Nat) (H : Hp) (Q : VK) : Prop :=
  ∀ (m : Addr) (rows : List (List Nat)) (H' : Hp), rows.length = n → (∀ row ∈ rows, row.length = (sg x).length ∧ ∀ g ∈ row, g < n) → Mod H' m x rows → Bag H' b l ns → ExB b H H' → Q (.ref m) H'
theorem modN (z : Int) (n : Nat) (h : 1 ≤ n) : ∃ g : Nat, z % (n : Int) = (g : Int) ∧ g < n := by
  have h0 := Int.emod_nonneg z (show (n : Int) ≠ 0 by omega)
  have h1 := Int.emod_lt_of_pos z (show (0 : Int) < (n : Int) by omega)
  generalize z % (n : Int) = y at h0 h1
  exact ⟨y.toNat, by omega, by omega⟩
theorem tbl {te : TE} {b l : Addr} {ns : List Int} {x : Str} {n : Nat} {H : Hp} {Q : VK} {a3 a4 : Option V} (n24 : n ≤ 24) (x1 : x.length < 1000) (hB : Bag H b l ns)
    (item : ∀ (i c : Nat) (z : Int) (H' : Hp) (Q' : VK), i < n → z = (i : Int) → c ∈ sg x → Bag H' b l ns → (∀ (g : Nat) (H'' : Hp), g < n → Bag H'' b l ns → But b H' H'' → Q' (.int (g : Int)) H'') →
      te [some (.ref b), some (.str x), some (.int (n : Int)), a3, a4, some (.int z), some (.str ⟨#[c]⟩)] H' Q')
    (k : TblK b l ns x n H Q) :
    tTup (tCons (tVar 1) (tCons (tLc (iRng1 (tCons (tVar 2) tNil)) (gName 5) tYes (tLc (iStr (tVar 1)) (gName 6) tYes te [6]) [5]) tNil)) [some (.ref b), some (.str x), some (.int (n : Int)), a3, a4, none, none] H Q := by
  have hxl : x.length = (sg x).length := by simp [Str.length, sg]
  have hxc : x.cps.size = (sg x).length := by simp [sg]
  refine ⟨_, rfl, _, rfl, (n : Int), rfl, (by show -(2 ^ 62 : Int) ≤ (n : Int); omega), (by show (n : Int) < 2 ^ 62; omega), fun D hD => ?_⟩
  have bD : b ≠ D := by
    obtain ⟨_, _, _, i, j, s, hb, _⟩ := hB
    exact ne_of_none hb hD
  refine lc_any (J := Itr 0 (n : Int).toNat) (n := n) (fun i H' => ∃ (rows : List (List Nat)) (ls : List Addr), rows.length = i ∧ ls.length = i ∧ H' D = some (.lst (ls.map V.ref)) ∧ (∀ row ∈ rows, row.length = (sg x).length ∧ ∀ g ∈ row, g < n) ∧
      (∀ (j : Nat) (a : Addr) (row : List Nat), ls[j]? = some a → rows[j]? = some row → H' a = some (.lst (rowV row)) ∧ a ≠ D ∧ a ≠ b) ∧ Bag H' b l ns ∧ ExB b H H')
    ⟨[], [], rfl, rfl, upd_same, (fun _ h => nomatch h), (fun j a row h => nomatch h), bag_ex hB (Ex.new hD), Ex.exB (Ex.new hD)⟩ (fun i H' hi _ => (show i < (n : Int).toNat by omega)) (fun H' _ => (show (n : Int).toNat ≤ n by omega)) ?_ ?_
  · rintro i H4 y H5 hi ⟨rows, ls, rl, ll, hDl, hrow, hls, hB4, e4⟩ ⟨rfl, rfl⟩
    refine ⟨rfl, tt_yes ⟨_, rfl, x, rfl, fun D2 hD2 => ?_⟩⟩
    have b2 : b ≠ D2 := by
      obtain ⟨_, _, _, i, j, s, hb, _⟩ := hB4
      exact ne_of_none hb hD2
    refine lc_any (J := Its x) (n := (sg x).length) (fun k H' => ∃ row : List Nat, row.length = k ∧ (∀ g ∈ row, g < n) ∧ H' D2 = some (.lst (rowV row)) ∧ Bag H' b l ns ∧ ExB b H5 H')
      ⟨[], rfl, (fun _ h => nomatch h), upd_same, bag_ex hB4 (Ex.new hD2), Ex.exB (Ex.new hD2)⟩ (fun k H' hk _ => (show k < x.cps.size by omega)) (fun H' _ => (show x.cps.size ≤ (sg x).length by omega)) ?_ ?_
    · rintro k2 H6 y2 H7 hk2 ⟨row, rl2, hg, hD6, hB6, e6⟩ ⟨rfl, c, hc, rfl⟩
      refine ⟨rfl, tt_yes ?_⟩
      have cm : c ∈ sg x := by
        have z : (sg x)[k2]? = some c := by simpa [sg] using hc
        exact List.mem_of_getElem? z
      refine item i c _ _ _ hi (Int.zero_add _) cm hB6 fun g H8 gn hB8 h8 => ?_
      have hD8 : H8 D2 = some (.lst (rowV row)) := by rw [h8 D2 b2.symm]; exact hD6
      refine ⟨_, hD8, small1000 (by simp [rowV]; omega), row ++ [g], by simp [rl2], fun g2 h2 => ?_, ?_, ?_, ?_⟩
      · rcases List.mem_append.mp h2 with q | q
        · exact hg g2 q
        · simp at q; omega
      · rw [upd_same]; simp [rowV]
      · obtain ⟨q1, q2, q3, i', j', s', q4, q5⟩ := hB8
        have nl : l ≠ D2 := by
          intro z
          obtain ⟨_, p2, _⟩ := hB4
          rw [z, hD2] at p2
          cases p2
        exact ⟨q1, by rw [upd_ne nl]; exact q2, q3, i', j', s', by rw [upd_ne b2]; exact q4, q5⟩
      · intro c2 o2 nc hc2
        have ncD : c2 ≠ D2 := ne_of_none hc2 hD2
        rw [upd_ne ncD, h8 c2 nc]
        exact e6 c2 o2 nc hc2
    · rintro H6 ⟨row, rl2, hg, hD6, hB6, e6⟩
      have nDD : D ≠ D2 := ne_of_none hDl hD2
      have hD6' := e6 D _ bD.symm hDl
      refine ⟨_, hD6', small1000 (by rw [List.length_map]; omega), rows ++ [row], ls ++ [D2], by simp [rl], by simp [ll], ?_, ?_, ?_, ?_, ?_⟩
      · rw [upd_same, List.map_append]; rfl
      · intro row2 h2
        rcases List.mem_append.mp h2 with q | q
        · exact hrow row2 q
        · simp at q; subst q; exact ⟨rl2, hg⟩
      · intro j a row2 hj hr2
        by_cases q : j < ls.length
        · rw [List.getElem?_append_left q] at hj
          rw [List.getElem?_append_left (by omega)] at hr2
          obtain ⟨w1, w2, w3⟩ := hls j a row2 hj hr2
          exact ⟨by rw [upd_ne w2]; exact e6 a _ w3 w1, w2, w3⟩
        · rw [List.getElem?_append_right (by omega)] at hj hr2
          have q2 : j = ls.length := by
            have := (List.getElem?_eq_some_iff.mp hj).1
            simp at this
            omega
          subst q2
          have q3 : ls.length - rows.length = 0 := by omega
          rw [q3] at hr2
          simp at hj hr2
          subst hj hr2
          exact ⟨by rw [upd_ne nDD.symm]; exact hD6, nDD.symm, b2.symm⟩
      · obtain ⟨q1, q2, q3, i', j', s', q4, q5⟩ := hB6
        have nl : l ≠ D := by
          intro z
          obtain ⟨_, p2, _⟩ := hB
          rw [z, hD] at p2
          cases p2
        exact ⟨q1, by rw [upd_ne nl]; exact q2, q3, i', j', s', by rw [upd_ne bD]; exact q4, q5⟩
      · intro c2 o2 nc hc2
        have ncD : c2 ≠ D := ne_of_none hc2 hD
        rw [upd_ne ncD]
        exact e6 c2 o2 nc (e4 c2 o2 nc hc2)
  · rintro H4 ⟨rows, ls, rl, ll, hDl, hrow, hls, hB4, e4⟩
    refine ⟨(by show 2 ≤ sizeLine; decide), fun p hp => ?_⟩
    have ep : Ex H4 (upd H4 p (.tup [.str x, .ref D])) := Ex.new hp
    exact k p rows _ rl hrow ⟨D, ls, upd_same, ep _ _ hDl, by omega, fun j a row h1 h2 => ep _ _ (hls j a row h1 h2).1⟩ (bag_ex hB4 ep) (e4.trans (Ex.exB ep))
def spLm : Sp := fun vs H Q _ => ∃ (b l : Addr) (ns : List Int) (x : Str) (n : Nat), vs = [.ref b, .str x, .int (n : Int)] ∧ 1 ≤ n ∧ n ≤ 24 ∧ x ∈ five5 ∧ Bag H b l ns ∧ TblK b l ns x n H Q
section
variable {P : Program} {w : World} {K : PySem.W.Frag} {mg : Str → Option Value} {base : Heap} {f : Addr} {fd : FuncData}
theorem scLm : FnScope ["_law_bag_here", "_law_signs_here", "_law_size", "_law_way", "_law_letter", "_law_state_z", "_law_sign"] ["_law_bag_here", "_law_signs_here", "_law_size"] (defScope sLm) := ⟨rfl, rfl, rfl, by decide +kernel, rfl, by decide +kernel, by decide +kernel⟩
theorem ok_lm {fP fO fD : Addr} {fdP fdO fdD : FuncData} (F : FnP K "_law_machine" sLm f fd) (FP : FnP K "_law_pull" sPull fP fdP) (gP : mg "_law_pull" = some (.ref fP)) (FO : FnP K "_law_of" sOf fO fdO) (gO : mg "_law_of" = some (.ref fO)) (FD : FnP K "_law_drawn" sDr fD fdD) (gD : mg "_law_drawn" = some (.ref fD))
    (gL : mg "len" = none) (gI : mg "int" = none) (gR : mg "range" = none) (gN : mg "min" = none) :
    FnOk P w K mg base CX0 3 f fd ["_law_bag_here", "_law_signs_here", "_law_size"] spLm := by
  have GP : FnOk P w K mg base CX0 2 fP fdP ["_law_bag_here", "_law_amount"] spPull := (ok_pull FP gL gI).mono (by decide)
  have GO : FnOk P w K mg base CX0 2 fO fdO ["_law_bag_here", "_law_things"] spOfS := ok_ofS FO FP gP gL gI
  have GD : FnOk P w K mg base CX0 2 fD fdD ["_law_bag_here", "_law_signs_here", "_law_size"] spDr := ok_dr FD FP gP gL gI gR
  have bP : Binds K fdP ["_law_bag_here", "_law_amount"] [] := FP.bindsN fun _ _ _ _ _ _ us hl => match us, hl with | [_, _], _ => rfl
  have bO : Binds K fdO ["_law_bag_here", "_law_things"] [] := FO.bindsN fun _ _ _ _ _ _ us hl => match us, hl with | [_, _], _ => rfl
  have bD : Binds K fdD ["_law_bag_here", "_law_signs_here", "_law_size"] [] := FD.bindsN fun _ _ _ _ _ _ us hl => match us, hl with | [_, _, _], _ => rfl
  refine F.ok scLm (fun vs H Q E h => ?_) (fun cdv A outer s H vs Q E hr h => ?_)
  · obtain ⟨b, l, ns, x, n, rfl, _⟩ := h
    rfl
  · obtain ⟨b, l, ns, x, n, rfl, n1, n24, x5, hB, k⟩ := h
    refine ⟨_, PSs.nox (pss_cons (ps_set (i := 3) scLm.nd rfl (Or.inl rfl) (pe_call GP hr rfl gP FP.kp bP .nil pass0 (pa_cons (pv 0) (pa_cons pe_int pa_nil))))
      (pss_cons (ps_if (pt_cmpR op_eq (pv 3) pe_int (nomark _)) (pss_one (ps_ret (pe_tup (pa_cons (pv 1) (pa_cons (pe_lc (own := [("_law_state_z", 5)]) (g := gName 5) (tt := tYes) (by rfl) scLm.nd (pi_range1 (by rfl) gR (pa_cons (pv 2) pa_nil)) (blkOk_by (own := [("_law_state_z", 5)]) (N := ["_law_bag_here", "_law_signs_here", "_law_size", "_law_way", "_law_letter", "_law_state_z", "_law_sign"]) (sc := defScope sLm) (by decide +kernel))
          (fun _ _ _ _ _ => pg_name (i := 5) scLm.nd rfl (Or.inr rfl)) (fun _ _ _ _ _ => pts_nil)
          (fun _ _ _ _ _ => pe_lc (own := [("_law_sign", 6)]) (g := gName 6) (tt := tYes) (by rfl) scLm.nd (pi_str (pv 1)) (blkOk_by (own := [("_law_sign", 6)]) (by rfl))
            (fun _ _ _ _ _ => pg_name (i := 6) scLm.nd rfl (Or.inl rfl)) (fun _ _ _ _ _ => pts_nil) (fun _ _ _ _ _ => pe_op op_mod (pe_op op_add (pv 5) pe_int) (pv 2)))) pa_nil))))) pss_nil)
      (pss_cons (ps_if (pt_cmpR op_lt (pv 3) pe_int (nomark _)) (pss_cons (ps_set (i := 4) scLm.nd rfl (Or.inr rfl) (pe_call GO hr rfl gO FO.kp bO .nil pass0 (pa_cons (pv 0) (pa_cons (pv 1) pa_nil))))
          (pss_one (ps_ret (pe_tup (pa_cons (pv 1) (pa_cons (pe_lc (own := [("_law_state_z", 5)]) (g := gName 5) (tt := tYes) (by rfl) scLm.nd (pi_range1 (by rfl) gR (pa_cons (pv 2) pa_nil)) (blkOk_by (own := [("_law_state_z", 5)]) (N := ["_law_bag_here", "_law_signs_here", "_law_size", "_law_way", "_law_letter", "_law_state_z", "_law_sign"]) (sc := defScope sLm) (by decide +kernel))
          (fun _ _ _ _ _ => pg_name (i := 5) scLm.nd rfl (Or.inr rfl)) (fun _ _ _ _ _ => pts_nil)
          (fun _ _ _ _ _ => pe_lc (own := [("_law_sign", 6)]) (g := gName 6) (tt := tYes) (by rfl) scLm.nd (pi_str (pv 1)) (blkOk_by (own := [("_law_sign", 6)]) (by rfl))
            (fun _ _ _ _ _ => pg_name (i := 6) scLm.nd rfl (Or.inl rfl)) (fun _ _ _ _ _ => pts_nil) (fun _ _ _ _ _ => pe_op op_mod (pe_op op_add (pv 5) (pe_callTy call_int1 (by rfl) gI (by decide +kernel) (pa_cons (pe_cmpR op_eq (pv 6) (pv 4) (nomark _)) pa_nil))) (pv 2)))) pa_nil)))))) pss_nil)
      (pss_cons (ps_if (pt_cmpR op_eq (pv 3) pe_int (nomark _)) (pss_one (ps_ret (pe_tup (pa_cons (pv 1) (pa_cons (pe_lc (own := [("_law_state_z", 5)]) (g := gName 5) (tt := tYes) (by rfl) scLm.nd (pi_range1 (by rfl) gR (pa_cons (pv 2) pa_nil)) (blkOk_by (own := [("_law_state_z", 5)]) (N := ["_law_bag_here", "_law_signs_here", "_law_size", "_law_way", "_law_letter", "_law_state_z", "_law_sign"]) (sc := defScope sLm) (by decide +kernel))
          (fun _ _ _ _ _ => pg_name (i := 5) scLm.nd rfl (Or.inr rfl)) (fun _ _ _ _ _ => pts_nil)
          (fun _ _ _ _ _ => pe_lc (own := [("_law_sign", 6)]) (g := gName 6) (tt := tYes) (by rfl) scLm.nd (pi_str (pv 1)) (blkOk_by (own := [("_law_sign", 6)]) (by rfl))
            (fun _ _ _ _ _ => pg_name (i := 6) scLm.nd rfl (Or.inl rfl)) (fun _ _ _ _ _ => pts_nil) (fun _ _ _ _ _ => pe_callB (call_min2 rfl) (by rfl) gN (by decide +kernel) (pa_cons (pe_op op_add (pv 5) (pe_call GP hr rfl gP FP.kp bP .nil pass0 (pa_cons (pv 0) (pa_cons pe_int pa_nil)))) (pa_cons (pe_op op_sub (pv 2) pe_int) pa_nil))))) pa_nil))))) pss_nil)
      (pss_one (ps_ret (pe_call GD hr rfl gD FD.kp bD .nil pass0 (pa_cons (pv 0) (pa_cons (pv 1) (pa_cons (pv 2) pa_nil)))))))))), ?_⟩
    have hxl : x.length = (sg x).length := by simp [Str.length, sg]
    have ax := alpha5 x x5
    have x3 := ax.three
    have x1 := ax.one
    have xk : x.length < 1000 := by omega
    have n0 : (0 : Int) < (n : Int) := by omega
    refine ⟨_, rfl, b, l, ns, _, rfl, by decide, by decide, hB, fun r H1 r0 r1 hB1 h1 => ?_⟩
    have k1 : ∀ H2, ExB b H1 H2 → TblK b l ns x n H2 Q := fun H2 e2 m rows H' p1 p2 p3 p4 p5 => k m rows H' p1 p2 p3 p4 ((h1.exB.trans e2).trans p5)
    refine ⟨_, rfl, rfl, _, rfl, ?_⟩
    refine ite2 (fun _ => ?_) (fun _ => ?_)
    · refine tbl n24 xk hB1 (fun i c z H' Q' hi hz hc hB' q => ?_) (k1 H1 (Ex.exB (Ex.refl _)))
      obtain ⟨g, hg, gn⟩ := modN (z + 1) n n1
      refine ⟨_, rfl, _, _, rfl, rfl, _, rfl, _, _, rfl, rfl, n0, ?_⟩
      have e := q g H' gn hB' fun _ _ => rfl
      rw [← hg] at e
      exact e
    refine ⟨_, rfl, _, _, rfl, rfl, _, rfl, ?_⟩
    refine ite2 (fun _ => ?_) (fun _ => ?_)
    · refine ⟨_, rfl, _, rfl, b, l, ns, x, rfl, by omega, xk, hB1, fun k2 c2 H2 hc2 hB2 h2 => ?_⟩
      refine tbl n24 xk hB2 (fun i c z H' Q' hi hz hc hB' q => ?_) (k1 H2 h2.exB)
      refine ⟨_, rfl, _, rfl, _, rfl, rfl, .inr ⟨_, rfl, _, _, rfl, rfl, _, rfl, _, _, rfl, rfl, n0, ?_⟩⟩
      obtain ⟨g, hg, gn⟩ := modN (z + (if decide (V.str ⟨#[c]⟩ = V.str ⟨#[c2]⟩) = true then 1 else 0)) n n1
      have e := q g H' gn hB' fun _ _ => rfl
      rw [← hg] at e
      exact e
    refine ⟨_, rfl, rfl, _, rfl, ?_⟩
    refine ite2 (fun _ => ?_) (fun _ => ?_)
    · refine tbl n24 xk hB1 (fun i c z H' Q' hi hz hc hB' q => ?_) (k1 H1 (Ex.exB (Ex.refl _)))
      refine ⟨_, rfl, _, rfl, b, l, ns, _, rfl, by decide, by decide, hB', fun r2 H2 q0 q1 hB2 h2 => ?_⟩
      refine ⟨_, _, rfl, rfl, _, rfl, _, _, rfl, rfl, _, _, rfl, ?_⟩
      obtain ⟨g, hg, gn⟩ : ∃ g : Nat, (if (n : Int) - 1 < z + r2 then (n : Int) - 1 else z + r2) = (g : Int) ∧ g < n := by
        split
        · exact ⟨n - 1, by omega, by omega⟩
        · exact ⟨(z + r2).toNat, by omega, by omega⟩
      have e := q g H2 gn hB2 h2
      rw [← hg] at e
      exact e
    · exact ⟨_, rfl, _, rfl, _, rfl, b, l, ns, x, n, rfl, n1, n24, xk, hB1, k1 H1 (Ex.exB (Ex.refl _))⟩
end
end K03

/-! repr of an instance whose class has its own __repr__ -/
namespace L2
open PySem PySem.Spec PyProof.Rows Evl
section
variable {prog : Program} {w : World} {A : Around} {E : Value → Shared → Prop} {s : Shared} {K : PySem.W.Frag} {x C f : Addr} {ox : Obj} {od : Option Obj}
theorem repr_own {Q : Value → Shared → Prop} (hu : A.units + 1 < cLine) (X : K.In s.heap) (I : PySem.W.InstAt s.heap x ox C od) (hr : PySem.W.findIn K (.ref C) "__repr__" = some (some (.ref f))) (hf : PySem.W.isFn K (.ref f) = true)
    (h : wpAny (model prog w) A.in1 (call (.ref f) [.ref x]) (fun r s' => ∃ y t, r = .str y t ∧ Q r s') E s) : wpAny (model prog w) A (call (.builtin "repr") [.ref x]) Q E s := by
  refine Calls.call_function_entry F.kind_repr F.plain_repr F.entry_repr (F.args_repr1 _) ?_
  unfold Builtin.«repr»
  refine wpAny_bind (m := oneArg "repr" _) (wpAny_pure ?_)
  refine wpAny_bind (m := cRoomFor _ _) (wpAny_cRoomFor (by show A.units + 1 < cLine; exact hu) ?_)
  refine wpAny_bind (wpAny_bind (I.type.here ((PySem.W.looks_findIn X hr).here ?_)))
  refine wpAny_bind (m := callSpecialIfBound? (.ref x) (Str.ofString "__repr__") _) (PySem.W.ifBound_K X I hr hf (wpAny_mono h (fun r s' hv => ?_) fun _ _ e => e))
  obtain ⟨y, t, rfl, q⟩ := hv
  refine wpAny_bind (wpAny_isInstance (T := "str") (b := true) rfl isSubtype_str_str ?_)
  exact wpAny_pure ⟨_, rfl, q⟩
end
def rReprI (C : Addr) (sp : Sp) (E : XK) : List V → Hp → VK → Prop := fun xs H Q => ∃ a dx fs, xs = [.ref a] ∧ H a = some (.ins C dx fs) ∧ sp [.ref a] H (fun z H' => ∃ y, z = .str y ∧ Q z H') E
theorem call_reprI {X : Cx} {CX : CXT} {C g : Addr} {n : Nat} {sp : Sp} {E : XK} (hs : PySem.W.findIn X.K (.ref C) "__repr__" = some (some (.ref g))) (hf : PySem.W.isFn X.K (.ref g) = true) (F : FnR X.prog X.w X.K X.mg X.base CX n g sp) (hr : Room (n + 1) X.A) (hx : Passes CX X E) :
    CallR X (.builtin "repr") (rReprI C sp E) := by
  intro pins s σ H xs us Q I r h
  obtain ⟨a, dx, fs, rfl, ha, q⟩ := h
  obtain ⟨u, rfl, ru⟩ := vals1 r
  cases (show u = Value.ref a from ru)
  obtain ⟨mA, J, _⟩ := ins_get I.hok ha
  obtain ⟨od, J, _⟩ := J.look
  have hu := Nat.lt_of_le_of_lt (Nat.add_le_add_left (show 1 ≤ 64 by decide) _) hr.units
  refine repr_own hu I.kIn J hs hf ?_
  refine wpAny_mono (wpAny_call (SlX.run_at (us := [.ref a]) (ws := [.ref a]) F hr.in1 I.env0.in1 hx I (.cons rfl .nil) q)) (fun w s' z => ?_) fun _ _ x => x
  obtain ⟨z', H', I', rz, y, ez, qz⟩ := z
  subst ez
  obtain ⟨t, rfl⟩ := rz
  exact ⟨y, t, rfl, .str y, H', I', ⟨t, rfl⟩, qz⟩
end L2

/-! len of an instance whose class has its own __len__ -/
namespace L2
open PySem PySem.Spec PyProof.Rows Evl
def rLenI (C : Addr) (sp : Sp) (E : XK) : List V → Hp → VK → Prop := fun xs H Q => ∃ a dx fs, xs = [.ref a] ∧ H a = some (.ins C dx fs) ∧ sp [.ref a] H (fun z H' => ∃ n : Nat, z = .int (n : Int) ∧ n ≤ 1000 ∧ Q z H') E
theorem call_lenI {X : Cx} {CX : CXT} {C g : Addr} {n : Nat} {sp : Sp} {E : XK} (hs : PySem.W.findIn X.K (.ref C) "__len__" = some (some (.ref g))) (hf : PySem.W.isFn X.K (.ref g) = true) (F : FnR X.prog X.w X.K X.mg X.base CX n g sp) (hr : Room (n + 1) X.A) (hx : Passes CX X E) :
    CallR X (.builtin "len") (rLenI C sp E) := by
  intro pins s σ H xs us Q I r h
  obtain ⟨a, dx, fs, rfl, ha, q⟩ := h
  obtain ⟨u, rfl, ru⟩ := vals1 r
  cases (show u = Value.ref a from ru)
  obtain ⟨mA, J, _⟩ := ins_get I.hok ha
  obtain ⟨od, J, _⟩ := J.look
  obtain ⟨m, hF⟩ := I.fr
  refine PySem.W.len_K hF I.ok.mod.kin J hs hf ?_
  refine wpAny_mono (wpAny_call (SlX.run_at (us := [.ref a]) (ws := [.ref a]) F hr.in1 I.env0.in1 hx I (.cons rfl .nil) q)) (fun w s' z => ?_) fun _ _ x => x
  obtain ⟨z', H', I', rz, k, ez, hk, qz⟩ := z
  subst ez
  obtain ⟨t, rfl⟩ := rz
  refine ⟨⟨by omega, by omega⟩, ?_⟩
  exact ⟨.int k, H', I'.tok _, ⟨_, rfl⟩, qz⟩
end L2

/-! new rows, new machines -/
namespace K03
open PySem L2 Evl OxK
def EvN (mk : List V → HO) (te : TE) (σ : L2.St) (H : Hp) (xs : List V) : Prop := ∀ H1, Ex H H1 → ∀ Q : VK, (∀ p H2, H1 p = none → Ex H1 H2 → H2 p = some (mk xs) → Q (.ref p) H2) → te σ H1 Q
/-- a new list of new things -/
structure NewR (mk : List V → HO) (H1 H2 : Hp) (D : Addr) (bs : List Addr) (out : List (List Nat)) : Prop where
  new : H1 D = none
  ex : Ex H1 H2
  len : bs.length = out.length
  at_ : H2 D = some (.lst (bs.map V.ref))
  it : ∀ (j : Nat) (b : Addr) (row : List Nat), bs[j]? = some b → out[j]? = some row → H1 b = none ∧ b ≠ D ∧ H2 b = some (mk (rowV row))
def EvRows (mk : List V → HO) (te : TE) (σ : L2.St) (H : Hp) (out : List (List Nat)) : Prop := ∀ H1, Ex H H1 → ∀ Q : VK, (∀ D bs H2, NewR mk H1 H2 D bs out → Q (.ref D) H2) → te σ H1 Q
theorem lc_new {K : PySem.W.Frag} {mk : List V → HO} {tl te : TE} {σ : L2.St} {H : Hp} {j : Nat} {vs : List Nat} {L : Addr} {xs : List V} (out : List (List Nat)) (ht : Ev tl σ H (.ref L)) (hL : SqL K H L xs) (len : out.length = xs.length) (few : xs.length ≤ 100)
    (hw : ∀ x, wipe ((wipe σ vs).set j (some x)) vs = wipe σ vs)
    (it : ∀ (i : Nat) (x : V) (row : List Nat) (H1 : Hp), Ex H H1 → xs[i]? = some x → out[i]? = some row → EvN mk te ((wipe σ vs).set j (some x)) H1 (rowV row)) :
    EvRows mk (tLc (iList K tl) (gName j) tYes te vs) σ H out := by
  intro H0 e0 Q q
  refine ht H0 e0 _ fun H1 e1 => ⟨L, rfl, ⟨xs, ex_l (e0.trans e1) hL⟩, fun D hD => ?_⟩
  have wk := wk_l (ex_l (e0.trans e1) hL)
  refine lc_any (J := Itl K L) (n := xs.length) (fun i H' => Ex H1 H' ∧ ∃ ls : List Addr, ls.length = i ∧ H' D = some (.lst (ls.map V.ref)) ∧ ∀ (j : Nat) (b : Addr) (row : List Nat), ls[j]? = some b → out[j]? = some row → H1 b = none ∧ b ≠ D ∧ H' b = some (mk (rowV row)))
    ⟨Ex.new hD, [], rfl, upd_same, fun j b row h => nomatch h⟩ (fun i H' hi p => wk.go i H' p.1 hi) (fun H' p => wk.stop H' p.1) ?_ ?_
  · rintro i H4 y H5 hi ⟨e4, ls, ll, hDl, hls⟩ yl
    obtain ⟨rfl, hz⟩ := wk.yld i H4 y H5 e4 hi yl
    obtain ⟨row, hrow⟩ : ∃ row, out[i]? = some row := ⟨_, List.getElem?_eq_getElem (by omega)⟩
    refine ⟨hw y, tt_yes ?_⟩
    refine it i y row _ ((e0.trans e1).trans e4) hz hrow _ (Ex.refl _) _ fun p H6 hp e6 h6 => ?_
    have nlD : p ≠ D := fun z => by
      rw [z, hDl] at hp
      cases hp
    refine ⟨_, e6 _ _ hDl, small1000 (by rw [List.length_map]; omega), Ex.mut (e4.trans e6) hD, ls ++ [p], by simp [ll], ?_, ?_⟩
    · rw [upd_same, List.map_append]; rfl
    · intro j b row2 hj hr2
      by_cases q : j < ls.length
      · rw [List.getElem?_append_left q] at hj
        obtain ⟨h1, h2, h3⟩ := hls j b row2 hj hr2
        exact ⟨h1, h2, by rw [upd_ne h2]; exact e6 _ _ h3⟩
      · rw [List.getElem?_append_right (by omega)] at hj
        have q2 : j = ls.length := by
          have := (List.getElem?_eq_some_iff.mp hj).1
          simp at this
          omega
        subst q2
        simp at hj
        subst hj
        rw [ll, hrow] at hr2
        cases hr2
        exact ⟨fresh_back e4 hp, nlD, by rw [upd_ne nlD]; exact h6⟩
  · rintro H4 ⟨e4, ls, ll, hDl, hls⟩
    exact q D ls H4 ⟨fresh_back e1 hD, e1.trans e4, by omega, hDl, fun j b row h1 h2 => ⟨fresh_back e1 (hls j b row h1 h2).1, (hls j b row h1 h2).2⟩⟩
/-- list(x), tuple(x) of a list -/
theorem en_list {K : PySem.W.Frag} {ta : TE} {σ : L2.St} {H : Hp} {p : Addr} {xs : List V} (h : Ev ta σ H (.ref p)) (hx : SqL K H p xs ∨ SqT K H p xs) : EvN .lst (tCB (rListOf K) (tCons ta tNil)) σ H xs := fun H1 e1 Q q =>
  h H1 e1 _ fun H2 e2 => ⟨p, xs, rfl, hx.imp (ex_l (e1.trans e2)) (ex_t (e1.trans e2)), fun l hl => q l _ (fresh_back e2 hl) (e2.trans (Ex.new hl)) upd_same⟩
theorem en_tup {K : PySem.W.Frag} {ta : TE} {σ : L2.St} {H : Hp} {p : Addr} {xs : List V} (h : Ev ta σ H (.ref p)) (hx : SqL K H p xs) : EvN .tup (tCB (rTupOf K) (tCons ta tNil)) σ H xs := fun H1 e1 Q q =>
  h H1 e1 _ fun H2 e2 => ⟨p, xs, rfl, .inl ⟨ex_l (e1.trans e2) hx, fun l hl => q l _ (fresh_back e2 hl) (e2.trans (Ex.new hl)) upd_same⟩⟩
/-- what can be moves -/
def EvMv (K : PySem.W.Frag) (te : TE) (σ : L2.St) (H : Hp) (rows : List (List Nat)) : Prop := ∀ H1, Ex H H1 → ∀ Q : VK, (∀ m H2, Ex H1 H2 → Mvs K H2 m rows → Q (.ref m) H2) → te σ H1 Q
theorem NewR.mvs {K : PySem.W.Frag} {H1 H2 : Hp} {D : Addr} {bs : List Addr} {out : List (List Nat)} (n : NewR .lst H1 H2 D bs out) : Mvs K H2 D out := ⟨bs, .inl n.at_, n.len, fun i a row h1 h2 => .inl (n.it i a row h1 h2).2.2⟩
theorem mv_rows {K : PySem.W.Frag} {te : TE} {σ : L2.St} {H : Hp} {rows : List (List Nat)} (h : EvRows .lst te σ H rows) : EvMv K te σ H rows := fun H1 e1 Q q => h H1 e1 _ fun D bs H2 n => q D H2 n.ex n.mvs
theorem Mvs.up {K : PySem.W.Frag} {H H' : Hp} {m : Addr} {rows : List (List Nat)} (h : Mvs K H m rows) (e : Ex H H') : Mvs K H' m rows := by
  obtain ⟨as, h1, h2, h3⟩ := h
  exact ⟨as, h1.imp (e _ _) (e _ _), h2, fun i a row q1 q2 => (h3 i a row q1 q2).imp (e _ _) (e _ _)⟩
theorem mv_var {K : PySem.W.Frag} {te : TE} {σ : L2.St} {H : Hp} {m : Addr} {rows : List (List Nat)} (h : Ev te σ H (.ref m)) (mv : Mvs K H m rows) : EvMv K te σ H rows := fun H1 e1 Q q => h H1 e1 _ fun H2 e2 => q m H2 e2 (mv.up (e1.trans e2))
theorem mv_tup {K : PySem.W.Frag} {te : TE} {σ : L2.St} {H : Hp} {rows : List (List Nat)} (h : EvRows .tup te σ H rows) : EvMv K (tCB (rTupOf K) (tCons te tNil)) σ H rows := fun H1 e1 Q q => h H1 e1 _ fun D bs H2 n =>
  ⟨D, bs.map V.ref, rfl, .inl ⟨SqL.of n.at_, fun l hl => q l _ (n.ex.trans (Ex.new hl)) ⟨bs, .inr upd_same, n.len, fun i a row h1 h2 => .inr ((Ex.new hl) _ _ (n.it i a row h1 h2).2.2)⟩⟩⟩
theorem sqt_ex {K : PySem.W.Frag} {C : Addr} {H H' : Hp} {s : Addr} {x : Str} {rows : List (List Nat)} (h : IsM K C H s x rows) (e : Ex H H') : IsM K C H' s x rows := by
  obtain ⟨dx, r, d, hs, ⟨bs, hB, bl, hR⟩, hd⟩ := h
  exact ⟨dx, r, d, e _ _ hs, ⟨bs, ex_t e hB, bl, fun i b row h1 h2 => ex_t e (hR i b row h1 h2)⟩, e _ _ hd⟩
theorem rd_mut {H : Hp} {D b : Addr} {ys xs : List V} {o : HO} (hD : H D = some (.lst ys)) (h : Rd H b (.tup xs)) : Rd (upd H D o) b (.tup xs) := by
  rcases h with h | ⟨u, h⟩
  · exact .inl (by rw [upd_ne (fun z => by rw [z, hD] at h; cases h)]; exact h)
  · exact .inr ⟨u, by rw [upd_ne (fun z => by rw [z, hD] at h; cases h)]; exact h⟩
theorem sqt_mut {K : PySem.W.Frag} {H : Hp} {D b : Addr} {ys xs : List V} {o : HO} (hD : H D = some (.lst ys)) (h : SqT K H b xs) : SqT K (upd H D o) b xs := h.imp (rd_mut hD) id
/-- a machine has no lists -/
theorem ism_mut {K : PySem.W.Frag} {C : Addr} {H : Hp} {s D : Addr} {x : Str} {rows : List (List Nat)} {ys : List V} {o : HO} (h : IsM K C H s x rows) (hD : H D = some (.lst ys)) : IsM K C (upd H D o) s x rows := by
  obtain ⟨dx, r, d, hs, ⟨bs, hB, bl, hR⟩, hd⟩ := h
  exact ⟨dx, r, d, by rw [upd_ne (fun z => by rw [z, hD] at hs; cases hs)]; exact hs, ⟨bs, sqt_mut hD hB, bl, fun i b row h1 h2 => sqt_mut hD (hR i b row h1 h2)⟩, by rw [upd_ne (fun z => by rw [z, hD] at hd; cases hd)]; exact hd⟩
/-- a new machine -/
theorem mk_new {K : PySem.W.Frag} {C : Addr} {ta tb : TE} {σ : L2.St} {H : Hp} {x : Str} {rows : List (List Nat)} (ax : AlphaOk x) (ro : RowsOk x rows) (ha : Ev ta σ H (.str x)) (hb : EvMv K tb σ H rows) :
    ∀ H1, Ex H H1 → ∀ Q : VK, (∀ s H2, H1 s = none → Ex H1 H2 → IsM K C H2 s x rows → Q (.ref s) H2) → tMake C (spMi K C) [] E0 (tCons ta (tCons tb tNil)) σ H1 Q := by
  intro H1 e1 Q q
  refine ha H1 e1 _ fun H2 e2 => hb H2 (e1.trans e2) _ fun m H3 e3 mv => ?_
  intro s dx hs hdx nds
  refine ⟨s, x, m, rows, H3, dx, rfl, ax, ro, mv, (Ex.new hdx).trans (Ex.new (by rw [upd_ne nds.symm]; exact hs)), hs, upd_same, fun H' r d e' hr hd h1 h2 h3 => ⟨rfl, ?_⟩⟩
  exact q s H' (fresh_back (e2.trans e3) hs) ((e2.trans e3).trans e') ⟨dx, r, d, h1, h2, h3⟩
/-- the same by keywords, moves first -/
theorem mk_newN {K : PySem.W.Frag} {C : Addr} {ta tb : TE} {σ : L2.St} {H : Hp} {x : Str} {rows : List (List Nat)} {gV : List V → List V → List V} (hg : ∀ s a b, gV [s] [b, a] = [s, a, b]) (ax : AlphaOk x) (ro : RowsOk x rows) (ha : Ev ta σ H (.str x)) (hb : EvMv K tb σ H rows) :
    ∀ H1, Ex H H1 → ∀ Q : VK, (∀ s H2, H1 s = none → Ex H1 H2 → IsM K C H2 s x rows → Q (.ref s) H2) → tMakeK C 0 2 (spMi K C) gV E0 tNil (tCons tb (tCons ta tNil)) σ H1 Q := by
  intro H1 e1 Q q
  refine hb H1 e1 _ fun m H2 e2 mv => ha H2 (e1.trans e2) _ fun H3 e3 => ⟨rfl, rfl, ?_⟩
  intro s dx hs hdx nds
  refine ⟨s, x, m, rows, H3, dx, hg _ _ _, ax, ro, mv.up e3, (Ex.new hdx).trans (Ex.new (by rw [upd_ne nds.symm]; exact hs)), hs, upd_same, fun H' r d e' hr hd h1 h2 h3 => ⟨rfl, ?_⟩⟩
  exact q s H' (fresh_back (e2.trans e3) hs) ((e2.trans e3).trans e') ⟨dx, r, d, h1, h2, h3⟩
/-! ### rows as data -/
def rowD (row : List Nat) : Dt := .l (row.map fun g : Nat => .f (.int (g : Int)))
def rowsD (rows : List (List Nat)) : Dt := .l (rows.map rowD)
theorem has_ints {H : Hp} {a : Addr} {zs : List Int} (h : H a = some (.lst (zs.map V.int))) (few : zs.length ≤ 1000) : Has H 1 (.ref a) (.l (zs.map fun z => .f (.int z))) := by
  refine .inr ⟨a, zs.map V.int, zs.map (fun z => .f (.int z)), rfl, .inl ⟨h, rfl⟩, by simp, by simpa using few, fun i x y h1 h2 => ?_⟩
  rw [List.getElem?_map] at h1 h2
  cases e : zs[i]? with
  | none => rw [e] at h1; cases h1
  | some z =>
    rw [e] at h1 h2
    cases h1
    cases h2
    exact ⟨True.intro, rfl⟩
theorem rowV_ints (row : List Nat) : rowV row = (row.map fun g : Nat => (g : Int)).map V.int := by simp [rowV, List.map_map, Function.comp_def]
theorem has_row {H : Hp} {a : Addr} {row : List Nat} (h : H a = some (.lst (rowV row))) (few : row.length ≤ 1000) : Has H 1 (.ref a) (rowD row) := by
  have z := has_ints (H := H) (a := a) (zs := row.map fun g : Nat => (g : Int)) (by rw [← rowV_ints]; exact h) (by simpa using few)
  rw [List.map_map] at z
  exact z
theorem has_rows {H : Hp} {D : Addr} {bs : List Addr} {rows : List (List Nat)} (h : H D = some (.lst (bs.map V.ref))) (len : bs.length = rows.length) (few : rows.length ≤ 1000) (wide : ∀ row ∈ rows, row.length ≤ 1000) (it : ∀ (j : Nat) (b : Addr) (row : List Nat), bs[j]? = some b → rows[j]? = some row → H b = some (.lst (rowV row))) :
    Has H 2 (.ref D) (rowsD rows) := by
  refine .inr ⟨D, bs.map V.ref, rows.map rowD, rfl, .inl ⟨h, rfl⟩, by simp [len], by simp; omega, fun i x y h1 h2 => ?_⟩
  rw [List.getElem?_map] at h1 h2
  cases e : bs[i]? with
  | none => rw [e] at h1; cases h1
  | some b =>
    cases e2 : rows[i]? with
    | none => rw [e2] at h2; cases h2
    | some row =>
      rw [e] at h1
      rw [e2] at h2
      cases h1
      cases h2
      exact has_row (it i b row e e2) (wide row (List.mem_of_getElem? e2))
theorem has_mod {H : Hp} {m : Addr} {x : Str} {rows : List (List Nat)} (h : Mod H m x rows) (few : rows.length ≤ 1000) (wide : ∀ row ∈ rows, row.length ≤ 1000) : ∃ (L : Addr) (xs : List V), H m = some (.tup [.str x, .ref L]) ∧ H L = some (.lst xs) ∧ xs.length = rows.length ∧ Has H 2 (.ref L) (rowsD rows) := by
  obtain ⟨L, ls, hm, hL, ll, hls⟩ := h
  exact ⟨L, _, hm, hL, by simp [ll], has_rows hL ll few wide hls⟩
/-- Machine(moves = .., alphabet = ..) -/
theorem kb_mi {K : PySem.W.Frag} {f : Addr} {fd : FuncData} (F : FunD K "__init__" "Machine.__init__" (defArgs sMi) (defBody sMi) (defScope sMi) [] [] f fd) :
    KBn K fd ["self", "alphabet", "moves"] 1 ["moves", "alphabet"] (fun us ws => us ++ (ws.drop 1 ++ ws.take 1)) (fun us ws => us ++ (ws.drop 1 ++ ws.take 1)) := by
  obtain ⟨oc, od, dV, kV, doc, pm, an, cdv, ct, osl, rfl, lk, hcd, hD, hK⟩ := F.ex
  rcases hD with ⟨_, rfl⟩ | ⟨e, _⟩
  · refine ⟨fun s us ws X l1 l2 => BindsTo.of_looks fun M => ?_, fun r1 r2 => r1.append ((r2.drop 1).append (r2.take 1))⟩
    match us, ws, l1, l2 with
    | [u], [b, a], _, _ => exact PySem.W.Looks.of_pure rfl
  · exact absurd rfl e
end K03

/-! a machine made of a model -/
namespace K03
open PySem L2 Evl OxK
def spMd (K : PySem.W.Frag) (C : Addr) : Sp := fun vs H Q _ => ∃ (m : Addr) (x : Str) (rows : List (List Nat)), vs = [.ref m] ∧ Mod H m x rows ∧ AlphaOk x ∧ RowsOk x rows ∧ ∀ s H', H s = none → Ex H H' → IsM K C H' s x rows → Q (.ref s) H'
section
variable {P : Program} {w : World} {K : PySem.W.Frag} {mg : Str → Option Value} {base : Heap} {f : Addr} {fd : FuncData}
theorem scMd : FnScope ["_law_model", "_law_row"] ["_law_model"] (defScope sMd) := ⟨rfl, rfl, rfl, by decide +kernel, rfl, by decide +kernel, by decide +kernel⟩
/-- the rows of a model, copied one by one -/
theorem mod_rows {te : TE} {σ : L2.St} {H : Hp} {m : Addr} {x : Str} {rows : List (List Nat)} {i j : Nat} {vs : List Nat} {mk : List V → HO} (hm : σ[i]? = some (some (.ref m))) (mo : Mod H m x rows) (few : rows.length ≤ 100) (hw : ∀ x, wipe ((wipe σ vs).set j (some x)) vs = wipe σ vs)
    (it : ∀ (a : Addr) (row : List Nat) (H1 : Hp), Ex H H1 → H1 a = some (.lst (rowV row)) → EvN mk te ((wipe σ vs).set j (some (.ref a))) H1 (rowV row)) :
    EvRows mk (tLc (iList K (tOp (rIxT K) (tVar i) (tC (.int 1)))) (gName j) tYes te vs) σ H rows := by
  obtain ⟨L, ls, h1, h2, h3, h4⟩ := mo
  refine lc_new rows (ev_op (ev_var hm) ev_c (rv_ixT (SqT.of h1) rfl)) (SqL.of h2) (by simp [h3]) (by simp; omega) hw fun i2 y row H1 e1 hy hr => ?_
  rw [List.getElem?_map] at hy
  cases e : ls[i2]? with
  | none => rw [e] at hy; cases hy
  | some a =>
    rw [e] at hy
    cases hy
    exact it a row H1 e1 (e1 _ _ (h4 i2 a row e hr))
theorem mod_0 {σ : L2.St} {H : Hp} {m : Addr} {x : Str} {rows : List (List Nat)} {i : Nat} (hm : σ[i]? = some (some (.ref m))) (mo : Mod H m x rows) : Ev (tOp (rIxT K) (tVar i) (tC (.int 0))) σ H (.str x) := by
  obtain ⟨L, ls, h1, h2, h3, h4⟩ := mo
  exact ev_op (ev_var hm) ev_c (rv_ixT (SqT.of h1) rfl)
theorem ok_md {C fI : Addr} {fdI : FuncData} (F : FnP K "_law_made" sMd f fd) (bLs : mg "list" = none) (M : Mk K C fI) (GI : FnOk P w K mg base CX0 4 fI fdI ["self", "alphabet", "moves"] (spMi K C)) (gC : mg "Machine" = some (.ref C)) (bI : Binds K fdI ["self", "alphabet", "moves"] []) :
    FnOk P w K mg base CX0 6 f fd ["_law_model"] (spMd K C) := by
  refine F.ok scMd (fun vs H Q E h => ?_) (fun cdv A outer s H vs Q E hr h => ?_)
  · obtain ⟨m, x, rows, rfl, _⟩ := h
    rfl
  · obtain ⟨m, x, rows, rfl, mo, ax, ro, k⟩ := h
    refine ⟨_, PSs.nox (pss_one (ps_ret (pe_make M GI hr rfl gC bI .nil pass0 (pa_cons (pe_ix ix_tup (pv 0) pe_int (fun _ _ => rfl)) (pa_cons (pe_lc (own := [("_law_row", 1)]) (g := gName 1) (tt := tYes) (by rfl) scMd.nd (pi_list (pe_ix ix_tup (pv 0) pe_int (fun _ _ => rfl))) (blkOk_by (own := [("_law_row", 1)]) (N := ["_law_model", "_law_row"]) (sc := defScope sMd) (by decide +kernel))
      (fun _ _ _ _ _ => pg_name (i := 1) scMd.nd rfl (Or.inl rfl)) (fun _ _ _ _ _ => pts_nil) (fun _ _ _ _ _ => pe_callTy (call_list_ofK (K := K)) (by rfl) bLs PyProof.Rows.boot_list (pa_cons (pv 1) pa_nil))) pa_nil))))), ?_⟩
    have n24 := ro.most
    refine mk_new ax ro (mod_0 rfl mo) (mv_rows (mod_rows rfl mo (by omega) (fun _ => rfl) fun a row H1 e1 ha => en_list (ev_var rfl) (.inl (SqL.of ha)))) H (Ex.refl H) _ fun s H2 hs e2 im => k s H2 hs e2 im
end
end K03

/-! what laws ask of machines, told over growing heaps -/
namespace K03
open PySem L2 Evl OxK
/-! ### rows as data: lists of lists -/
def rowsL (rows : List (List Nat)) : PyData := .list (rows.map fun row => .list (row.map fun g : Nat => .int (g : Int)))
theorem eqv_rowsl : ∀ a b : List (List Nat), PyData.eqvAll (a.map fun row => .list (row.map fun g : Nat => .int (g : Int))) (b.map fun row => .list (row.map fun g : Nat => .int (g : Int))) = decide (a = b)
  | [], [] => by simp [PyData.eqvAll]
  | [], _ :: _ => by simp [PyData.eqvAll]
  | _ :: _, [] => by simp [PyData.eqvAll]
  | x :: a, y :: b => by
    have ih := eqv_rowsl a b
    have ix := eqv_row x y
    simp only [List.map_cons, PyData.eqvAll, PyData.eqv, ih, ix]
    rw [Bool.eq_iff_iff]
    simp
theorem eqv_rowsL (a b : List (List Nat)) : PyData.eqv (rowsL a) (rowsL b) = decide (a = b) := by
  show PyData.eqv (.list _) (.list _) = _
  rw [PyData.eqv]
  exact eqv_rowsl a b
theorem lay_rowsl : ∀ a : List (List Nat), PyData.canLayAll0 (a.map fun row => .list (row.map fun g : Nat => .int (g : Int))) = true ∧ PyData.depthAll (a.map fun row => .list (row.map fun g : Nat => .int (g : Int))) ≤ 1
  | [] => by simp [PyData.canLayAll0, PyData.depthAll]
  | x :: a => by
    obtain ⟨h1, h2⟩ := lay_rowsl a
    obtain ⟨h3, h4⟩ := lay_row x
    refine ⟨?_, ?_⟩
    · simp only [List.map_cons, PyData.canLayAll0, PyData.canLay0, h1, h3]
      rfl
    · simp only [List.map_cons, PyData.depthAll, PyData.depth, h4]
      omega
theorem shaped_rowsL (a : List (List Nat)) : SeqAt.shaped (rowsL a) = true := by
  obtain ⟨h1, h2⟩ := lay_rowsl a
  unfold SeqAt.shaped rowsL
  simp only [PyData.canLay0, PyData.depth, h1]
  simp
  omega
theorem dp_rowsl {K : PySem.W.Frag} {H : Hp} : ∀ (bs : List Addr) (rows : List (List Nat)), bs.length = rows.length → (∀ (i : Nat) (b : Addr) (row : List Nat), bs[i]? = some b → rows[i]? = some row → H b = some (.lst (rowV row))) →
    DpAll K H (bs.map V.ref) (rows.map fun row => PyData.list (row.map fun g : Nat => PyData.int (g : Int)))
  | [], [], _, _ => .nil
  | [], _ :: _, h, _ => nomatch h
  | _ :: _, [], h, _ => nomatch h
  | b :: bs, row :: rows, h, k => .cons (.lst (SqL.of (k 0 b row rfl rfl)) (dp_row row)) (dp_rowsl bs rows (Nat.succ.inj h) fun i b' row' h1 h2 => k (i + 1) b' row' h1 h2)
/-! ### lists of data -/
def HasL (H : Hp) (n : Nat) : List V → List Dt → Prop
  | [], [] => True
  | v :: vs, d :: ds => Has H n v d ∧ HasL H n vs ds
  | _, _ => False
theorem hasl_at {H : Hp} {n : Nat} : ∀ {vs : List V} {ds : List Dt}, HasL H n vs ds → vs.length = ds.length ∧ ∀ (i : Nat) (x : V) (y : Dt), vs[i]? = some x → ds[i]? = some y → Has H n x y
  | [], [], _ => ⟨rfl, fun i x y h => nomatch h⟩
  | v :: vs, d :: ds, h => by
    obtain ⟨h1, h2⟩ := hasl_at h.2
    refine ⟨by simp [h1], fun i x y p q => ?_⟩
    cases i with
    | zero =>
      cases p
      cases q
      exact h.1
    | succ i => exact h2 i x y (by simpa using p) (by simpa using q)
  | [], _ :: _, h => h.elim
  | _ :: _, [], h => h.elim
theorem has_of {H : Hp} {n : Nat} {p : Addr} {vs : List V} {ds : List Dt} (h : HasL H n vs ds) (hp : H p = some (.lst vs)) (few : vs.length ≤ 1000 := by decide) : Has H (n + 1) (.ref p) (.l ds) :=
  .inr ⟨p, vs, ds, rfl, .inl ⟨hp, rfl⟩, (hasl_at h).1, few, (hasl_at h).2⟩
theorem has_flat {H : Hp} {v : V} (f : Flat v) : ∀ n, Has H n v (.f v)
  | 0 => ⟨f, rfl⟩
  | _ + 1 => .inl ⟨f, rfl⟩
/-! ### machines and models on the way -/
section
variable {K : PySem.W.Frag} {C : Addr} {te ta tb tl : TE} {σ : L2.St} {H : Hp} {x x2 : Str} {rows rows2 : List (List Nat)} {s m : Addr} {i j : Nat} {vs : List Nat} {mk : List V → HO} {D : Ends} {tz : TS}
def EvM (K : PySem.W.Frag) (C : Addr) (te : TE) (σ : L2.St) (H : Hp) (x : Str) (rows : List (List Nat)) : Prop := ∀ H1, Ex H H1 → ∀ Q : VK, (∀ s H2, Ex H1 H2 → IsM K C H2 s x rows → Q (.ref s) H2) → te σ H1 Q
def EvMod (te : TE) (σ : L2.St) (H : Hp) (x : Str) (rows : List (List Nat)) : Prop := ∀ H1, Ex H H1 → ∀ Q : VK, (∀ m H2, Ex H1 H2 → Mod H2 m x rows → Q (.ref m) H2) → te σ H1 Q
theorem EvM.up {H' : Hp} (h : EvM K C te σ H x rows) (e : Ex H H') : EvM K C te σ H' x rows := fun H1 e1 => h H1 (e.trans e1)
theorem em_var (hv : σ[i]? = some (some (.ref s))) (im : IsM K C H s x rows) : EvM K C (tVar i) σ H x rows := fun H1 e1 Q q => ⟨_, hv, q s H1 (Ex.refl _) (sqt_ex im e1)⟩
theorem emod_var (hv : σ[i]? = some (some (.ref m))) (mo : Mod H m x rows) : EvMod (tVar i) σ H x rows := fun H1 e1 Q q => ⟨_, hv, q m H1 (Ex.refl _) (mod_ex mo e1)⟩
theorem em_made (ax : AlphaOk x) (ro : RowsOk x rows) (h : EvMod te σ H x rows) : EvM K C (tCall (spMd K C) [] E0 (tCons te tNil)) σ H x rows := fun H1 e1 Q q =>
  h H1 e1 _ fun m H2 e2 mo => ⟨m, x, rows, rfl, mo, ax, ro, fun s H3 _ e3 im => q s H3 (e2.trans e3) im⟩
/-- a pair of a text and a list of lists of its own -/
theorem emod_new (ha : Ev ta σ H (.str x)) (hb : EvRows .lst tb σ H rows) : EvMod (tTup (tCons ta (tCons tb tNil))) σ H x rows := fun H1 e1 Q q =>
  ha H1 e1 _ fun H2 e2 => hb H2 (e1.trans e2) _ fun D bs H3 n => ⟨(by show 2 ≤ sizeLine; decide), fun p hp => q p _ ((e2.trans n.ex).trans (Ex.new hp))
    ⟨D, bs, upd_same, (Ex.new hp) _ _ n.at_, n.len, fun i a row h1 h2 => (Ex.new hp) _ _ (n.it i a row h1 h2).2.2⟩⟩
/-- another text with the rows of a model -/
theorem emod_with (ha : Ev ta σ H (.str x2)) (hv : σ[i]? = some (some (.ref m))) (mo : Mod H m x rows) : EvMod (tTup (tCons ta (tCons (tOp (rIxT K) (tVar i) (tC (.int 1))) tNil))) σ H x2 rows := by
  obtain ⟨L, ls, h1, h2, h3, h4⟩ := mo
  have hb : Ev (tOp (rIxT K) (tVar i) (tC (.int 1))) σ H (.ref L) := ev_op (ev_var hv) ev_c (rv_ixT (SqT.of h1) rfl)
  exact fun H1 e1 Q q => ha H1 e1 _ fun H2 e2 => hb H2 (e1.trans e2) _ fun H3 e3 => ⟨(by show 2 ≤ sizeLine; decide), fun p hp => by
    have e : Ex H (upd H3 p (.tup [.str x2, .ref L])) := ((e1.trans e2).trans e3).trans (Ex.new hp)
    exact q p _ ((e2.trans e3).trans (Ex.new hp)) ⟨L, ls, upd_same, e _ _ h2, h3, fun i a row q1 q2 => e _ _ (h4 i a row q1 q2)⟩⟩
theorem q_asgRows {out : List (List Nat)} (h : EvRows mk te σ H out) (k : ∀ D2 bs H1, NewR mk H H1 D2 bs out → tz D (σ.set i (some (.ref D2))) H1) : tSeq (tAsg te (gName i)) tz D σ H := h H (Ex.refl H) _ k
theorem q_asgM (h : EvM K C te σ H x rows) (k : ∀ s H1, Ex H H1 → IsM K C H1 s x rows → tz D (σ.set i (some (.ref s))) H1) : tSeq (tAsg te (gName i)) tz D σ H := h H (Ex.refl H) _ k
theorem q_asgMod (h : EvMod te σ H x rows) (k : ∀ s H1, Ex H H1 → Mod H1 s x rows → tz D (σ.set i (some (.ref s))) H1) : tSeq (tAsg te (gName i)) tz D σ H := h H (Ex.refl H) _ k
theorem em_make (ax : AlphaOk x) (ro : RowsOk x rows) (ha : Ev ta σ H (.str x)) (hb : EvMv K tb σ H rows) : EvM K C (tMake C (spMi K C) [] E0 (tCons ta (tCons tb tNil))) σ H x rows := fun H1 e1 Q q => mk_new ax ro ha hb H1 e1 Q fun s H2 _ e2 im => q s H2 e2 im
/-- == and != of machines -/
theorem ev_eqM (nf : PySem.W.notFirst K C (.ref C) = true) (ha : Ev ta σ H (.ref s)) (im : IsM K C H s x rows) (hb : EvM K C tb σ H x2 rows2) : Ev (tOp (rOwnI K C (spMeq K C) E0) ta tb) σ H (.bl (decide (x = x2) && decide (rows = rows2))) := fun H1 e1 Q q =>
  ha H1 e1 _ fun H2 e2 => hb H2 (e1.trans e2) _ fun s2 H3 e3 im2 => by
    have im3 := sqt_ex im ((e1.trans e2).trans e3)
    obtain ⟨dx, r, d, hs, r1⟩ := id im3
    obtain ⟨dx2, r2, d2, hs2, r3⟩ := id im2
    exact ⟨s, dx, _, .ref C, rfl, hs, .ins hs2, nf, s, x, rows, .ref s2, rfl, im3, .inl ⟨s2, x2, rows2, rfl, im2, fun H4 e4 => q H4 ((e2.trans e3).trans e4)⟩⟩
theorem ev_neM (nf : PySem.W.notFirst K C (.ref C) = true) (ha : Ev ta σ H (.ref s)) (im : IsM K C H s x rows) (hb : EvM K C tb σ H x2 rows2) : Ev (tOp (rNeOwnI K C (spMeq K C) E0) ta tb) σ H (.bl (!(decide (x = x2) && decide (rows = rows2)))) := fun H1 e1 Q q =>
  ha H1 e1 _ fun H2 e2 => hb H2 (e1.trans e2) _ fun s2 H3 e3 im2 => by
    have im3 := sqt_ex im ((e1.trans e2).trans e3)
    obtain ⟨dx, r, d, hs, r1⟩ := id im3
    obtain ⟨dx2, r2, d2, hs2, r3⟩ := id im2
    exact ⟨s, dx, _, .ref C, rfl, hs, .ins hs2, nf, s, x, rows, .ref s2, rfl, im3, .inl ⟨s2, x2, rows2, rfl, im2, fun H4 e4 => ⟨_, rfl, q H4 ((e2.trans e3).trans e4)⟩⟩⟩
theorem ev_eqO {y : V} {T : String} (nf : PySem.W.notFirst K C (.type T) = true) (ha : Ev ta σ H (.ref s)) (im : IsM K C H s x rows) (hb : Ev tb σ H y) (ty : ∀ H1, Ex H H1 → TyB K H1 y T ∧ TyX K H1 y (.type T)) (kt : PySem.W.kitOne K (.type T) (.ref C) = some false) :
    Ev (tOp (rOwnI K C (spMeq K C) E0) ta tb) σ H (.bl false) := fun H1 e1 Q q =>
  ha H1 e1 _ fun H2 e2 => hb H2 (e1.trans e2) _ fun H3 e3 => by
    have im3 := sqt_ex im ((e1.trans e2).trans e3)
    obtain ⟨dx, r, d, hs, r1⟩ := id im3
    obtain ⟨t1, t2⟩ := ty H3 ((e1.trans e2).trans e3)
    exact ⟨s, dx, _, .type T, rfl, hs, .blt t1, nf, s, x, rows, y, rfl, im3, .inr ⟨.type T, t2, kt, fun H4 e4 => q H4 ((e2.trans e3).trans e4)⟩⟩
theorem ev_rpM (ha : Ev ta σ H (.ref s)) (im : IsM K C H s x rows) (ax : AlphaOk x) (ro : RowsOk x rows) : Ev (tCB (rReprI C (spMrp K C) E0) (tCons ta tNil)) σ H (.str (mRepr rows.length x.length)) := fun H1 e1 Q q =>
  ha H1 e1 _ fun H2 e2 => by
    have im3 := sqt_ex im (e1.trans e2)
    obtain ⟨dx, r, d, hs, r1⟩ := id im3
    exact ⟨s, dx, _, rfl, hs, s, x, rows, rfl, im3, ax, ro, fun H3 e3 => ⟨_, rfl, q H3 (e2.trans e3)⟩⟩
theorem ev_eqL {p q : Addr} {bs cs : List Addr} (ha : Ev ta σ H (.ref p)) (hb : Ev tb σ H (.ref q)) (hp : H p = some (.lst (bs.map V.ref))) (hq : H q = some (.lst (cs.map V.ref))) (lb : bs.length = rows.length) (lc : cs.length = rows2.length)
    (ib : ∀ (j : Nat) (b : Addr) (row : List Nat), bs[j]? = some b → rows[j]? = some row → H b = some (.lst (rowV row))) (ic : ∀ (j : Nat) (b : Addr) (row : List Nat), cs[j]? = some b → rows2[j]? = some row → H b = some (.lst (rowV row))) :
    Ev (tOp (rEqD K) ta tb) σ H (.bl (decide (rows = rows2))) := fun H1 e1 Q k =>
  ha H1 e1 _ fun H2 e2 => hb H2 (e1.trans e2) _ fun H3 e3 => by
    have e := (e1.trans e2).trans e3
    refine ⟨rowsL rows, rowsL rows2, .lst (SqL.of (e _ _ hp)) (dp_rowsl bs rows lb fun i b row h1 h2 => e _ _ (ib i b row h1 h2)), .lst (SqL.of (e _ _ hq)) (dp_rowsl cs rows2 lc fun i b row h1 h2 => e _ _ (ic i b row h1 h2)), shaped_rowsL _, shaped_rowsL _, ?_⟩
    rw [eqv_rowsL]
    exact k H3 (e2.trans e3)
/-- the rows of a model, each by f -/
theorem mod_map (f : List Nat → List Nat) (hm : σ[i]? = some (some (.ref m))) (mo : Mod H m x rows) (few : rows.length ≤ 100) (hw : ∀ x, wipe ((wipe σ vs).set j (some x)) vs = wipe σ vs)
    (it : ∀ (a : Addr) (row : List Nat) (H1 : Hp), Ex H H1 → row ∈ rows → H1 a = some (.lst (rowV row)) → EvN mk te ((wipe σ vs).set j (some (.ref a))) H1 (rowV (f row))) :
    EvRows mk (tLc (iList K (tOp (rIxT K) (tVar i) (tC (.int 1)))) (gName j) tYes te vs) σ H (rows.map f) := by
  obtain ⟨L, ls, h1, h2, h3, h4⟩ := mo
  refine lc_new (rows.map f) (ev_op (ev_var hm) ev_c (rv_ixT (SqT.of h1) rfl)) (SqL.of h2) (by simp [h3]) (by simp; omega) hw fun i2 y row H1 e1 hy hr => ?_
  rw [List.getElem?_map] at hy hr
  cases e : ls[i2]? with
  | none => rw [e] at hy; cases hy
  | some a =>
    cases e2 : rows[i2]? with
    | none => rw [e2] at hr; cases hr
    | some row0 =>
      rw [e] at hy
      rw [e2] at hr
      cases hy
      cases hr
      exact it a row0 H1 e1 (List.mem_of_getElem? e2) (e1 _ _ (h4 i2 a row0 e e2))
/-- a comprehension over any walk, whose items are numbers -/
theorem lc_nums {wi : TI} {n : Nat} {yl : Nat → V → Hp → Hp → Prop} (v : Nat → Nat) (hwi : ∀ H1, Ex H H1 → ∀ R : It → Hp → Prop, (∀ J H2, Ex H1 H2 → Wk J H2 n yl → R J H2) → wi σ H1 R) (hn : n ≤ 100) (hy : ∀ i y H1 H2, yl i y H1 H2 → H2 = H1)
    (hw : ∀ x, wipe ((wipe σ vs).set j (some x)) vs = wipe σ vs) (it : ∀ i y H1, Ex H H1 → i < n → yl i y H1 H1 → Ev te ((wipe σ vs).set j (some y)) H1 (.int (v i : Int))) :
    EvN .lst (tLc wi (gName j) tYes te vs) σ H (rowV ((List.range n).map v)) := by
  intro H0 e0 Q q
  refine hwi H0 e0 _ fun J H1 e1 wk D hD => ?_
  refine lc_any (J := J) (n := n) (fun i H' => Ex H1 H' ∧ H' D = some (.lst (rowV ((List.range i).map v)))) ⟨Ex.new hD, upd_same⟩ (fun i H' hi p => wk.go i H' p.1 hi) (fun H' p => wk.stop H' p.1) ?_ (fun H' p => q D H' (fresh_back e1 hD) (e1.trans p.1) p.2)
  rintro i H4 y H5 hi ⟨e4, hDl⟩ yl'
  have yy := wk.yld i H4 y H5 e4 hi yl'
  have r := hy _ _ _ _ yy
  subst r
  refine ⟨hw y, tt_yes ?_⟩
  refine it i y _ ((e0.trans e1).trans e4) hi yy _ (Ex.refl _) _ fun H6 e6 => ?_
  refine ⟨_, e6 _ _ hDl, small1000 (by simp [rowV]; omega), Ex.mut (e4.trans e6) hD, ?_⟩
  rw [upd_same, List.range_succ]
  simp [rowV]
/-- over the signs of a text -/
theorem lc_signs {z : Str} (v : Nat → Nat) (ht : Ev tl σ H (.str z)) (few : (sg z).length ≤ 100) (hw : ∀ x, wipe ((wipe σ vs).set j (some x)) vs = wipe σ vs)
    (it : ∀ i c H1, Ex H H1 → (sg z)[i]? = some c → Ev te ((wipe σ vs).set j (some (.str ⟨#[c]⟩))) H1 (.int (v i : Int))) : EvN .lst (tLc (iStr tl) (gName j) tYes te vs) σ H (rowV ((List.range (sg z).length).map v)) := by
  have hc : z.cps.size = (sg z).length := by simp [sg]
  refine lc_nums (yl := fun i y H1 H2 => H2 = H1 ∧ ∃ c, (sg z)[i]? = some c ∧ y = .str ⟨#[c]⟩) v (fun H1 e1 R r => ht H1 e1 _ fun H2 e2 => ⟨z, rfl, r (Its z) H2 e2 ⟨fun i _ _ hi => (show i < z.cps.size by omega), fun _ _ => (show z.cps.size ≤ (sg z).length by omega), fun i H3 y H4 _ _ ⟨r1, c, h1, h2⟩ => ⟨r1, c, by simpa [sg] using h1, h2⟩⟩⟩) few (fun _ _ _ _ h => h.1) hw ?_
  rintro i y H1 e1 hi ⟨_, c, h1, rfl⟩
  exact it i c H1 e1 h1
/-- over a list of numbers -/
theorem lc_row {a : Addr} {row : List Nat} (f : Nat → Nat) (ht : Ev tl σ H (.ref a)) (ha : H a = some (.lst (rowV row))) (few : row.length ≤ 100) (hw : ∀ x, wipe ((wipe σ vs).set j (some x)) vs = wipe σ vs)
    (it : ∀ g H1, Ex H H1 → g ∈ row → Ev te ((wipe σ vs).set j (some (.int (g : Int)))) H1 (.int (f g : Int))) : EvN .lst (tLc (iList K tl) (gName j) tYes te vs) σ H (rowV (row.map f)) := by
  have z : rowV (row.map f) = rowV ((List.range (rowV row).length).map fun i => f (row.getD i 0)) := by
    congr 1
    apply List.ext_getElem
    · simp [rowV]
    · intro i h1 h2
      simp at h1
      simp [List.getD_eq_getElem?_getD, List.getElem?_eq_getElem h1]
  rw [z]
  refine lc_nums (yl := yPl (rowV row)) _ (fun H1 e1 R r => ht H1 e1 _ fun H2 e2 => ⟨a, rfl, ⟨_, SqL.of ((e1.trans e2) _ _ ha)⟩, r _ H2 e2 (wk_l (SqL.of ((e1.trans e2) _ _ ha)))⟩) (by simp [rowV]; omega) (fun _ _ _ _ h => h.1) hw ?_
  rintro i y H1 e1 hi ⟨_, h1⟩
  have hi2 : i < row.length := by simpa [rowV] using hi
  have h2 : y = .int ((row[i] : Nat) : Int) := by
    unfold rowV at h1
    rw [List.getElem?_map, List.getElem?_eq_getElem hi2] at h1
    exact (Option.some.inj h1).symm
  subst h2
  have z2 : row.getD i 0 = row[i] := by simp [List.getD_eq_getElem?_getD, List.getElem?_eq_getElem hi2]
  show Ev te _ H1 (.int ((f (row.getD i 0) : Nat) : Int))
  rw [z2]
  exact it _ H1 e1 (List.getElem_mem hi2)
end
/-- lists of rows put together -/
theorem er_one {te : TE} {σ : L2.St} {H : Hp} {row : List Nat} (h : EvN .lst te σ H (rowV row)) : EvRows .lst (tLst (tCons te tNil)) σ H [row] := fun H1 e1 Q q =>
  h H1 e1 _ fun p H2 hp e2 h2 => ⟨(by show 1 ≤ sizeLine; decide), fun D hD => q D [p] _ ⟨fresh_back e2 hD, e2.trans (Ex.new hD), rfl, upd_same, fun j b row2 h1 h3 => by
    have npD : p ≠ D := fun z => by rw [z, hD] at h2; cases h2
    cases j with
    | zero =>
      cases h1
      cases h3
      exact ⟨hp, npD, by rw [upd_ne npD]; exact h2⟩
    | succ j => simp at h1⟩⟩
theorem er_cat {ta tb : TE} {σ : L2.St} {H : Hp} {out out2 : List (List Nat)} (ha : EvRows .lst ta σ H out) (hb : EvRows .lst tb σ H out2) (few : out.length + out2.length ≤ 100) : EvRows .lst (tOp rCat ta tb) σ H (out ++ out2) := fun H1 e1 Q q =>
  ha H1 e1 _ fun D bs H2 n => hb H2 (e1.trans n.ex) _ fun D2 bs2 H3 n2 => by
    refine ⟨D, D2, _, _, rfl, rfl, n2.ex _ _ n.at_, n2.at_, Nat.le_of_lt (small1000 (by rw [List.length_map, List.length_map, n.len, n2.len]; omega)), fun p hp => ?_⟩
    refine q p (bs ++ bs2) _ ⟨fresh_back (n.ex.trans n2.ex) hp, (n.ex.trans n2.ex).trans (Ex.new hp), by simp [n.len, n2.len], by rw [upd_same, List.map_append], fun j b row h1 h3 => ?_⟩
    by_cases z : j < bs.length
    · rw [List.getElem?_append_left z] at h1
      rw [List.getElem?_append_left (by rw [← n.len]; exact z)] at h3
      obtain ⟨w1, w2, w3⟩ := n.it j b row h1 h3
      have w4 := n2.ex _ _ w3
      have nbp : b ≠ p := fun y => by rw [y, hp] at w4; cases w4
      exact ⟨w1, nbp, by rw [upd_ne nbp]; exact w4⟩
    · rw [List.getElem?_append_right (by omega)] at h1
      rw [List.getElem?_append_right (by rw [← n.len]; omega), ← n.len] at h3
      obtain ⟨w1, w2, w3⟩ := n2.it _ b row h1 h3
      have nbp : b ≠ p := fun y => by rw [y, hp] at w3; cases w3
      exact ⟨fresh_back n.ex w1, nbp, by rw [upd_ne nbp]; exact w3⟩
theorem has_s {H : Hp} {x : Str} (n : Nat) : Has H n (.str x) (.f (.str x)) := has_flat (v := .str x) True.intro n
theorem has_i {H : Hp} {z : Int} (n : Nat) : Has H n (.int z) (.f (.int z)) := has_flat (v := .int z) True.intro n
/-! ### rules with K given, for blocks within blocks -/
section
variable {X : Cx} {K : PySem.W.Frag}
theorem ix_tupK (h : X.K = K := by rfl) : IxR X (rIxT K) := by
  subst h
  exact ix_tup
theorem ix_listK (h : X.K = K := by rfl) : IxR X (rIxL K) := by
  subst h
  exact ix_list
theorem pi_listK {tg l : Expr} {tl : TE} (hl : PE X l tl) (h : X.K = K := by rfl) : PI X tg l (iList K tl) := by
  subst h
  exact pi_list hl
theorem pi_tupK {tg l : Expr} {tl : TE} (hl : PE X l tl) (h : X.K = K := by rfl) : PI X tg l (iTup K tl) := by
  subst h
  exact pi_tup hl
theorem call_len_seqK (h : X.K = K := by rfl) : CallR X (.builtin "len") (rLenS K) := by
  subst h
  exact call_len_seq
end
/-! ### another alphabet of the same length -/
theorem mno_ok : ∀ x ∈ five5, AlphaOk (cutS (Str.ofString "mno") none (some (x.length : Int))) ∧ (sg (cutS (Str.ofString "mno") none (some (x.length : Int)))).length = (sg x).length ∧ x ≠ cutS (Str.ofString "mno") none (some (x.length : Int)) := by
  have key : ∀ x ∈ five5, (1 ≤ (sg (cutS (Str.ofString "mno") none (some (x.length : Int)))).length ∧ (sg (cutS (Str.ofString "mno") none (some (x.length : Int)))).length ≤ 3 ∧ (∀ c ∈ sg (cutS (Str.ofString "mno") none (some (x.length : Int))), 97 ≤ c ∧ c ≤ 122) ∧ (sg (cutS (Str.ofString "mno") none (some (x.length : Int)))).Pairwise (· < ·)) ∧
      (sg (cutS (Str.ofString "mno") none (some (x.length : Int)))).length = (sg x).length ∧ x ≠ cutS (Str.ofString "mno") none (some (x.length : Int)) := by decide +kernel
  intro x hx
  obtain ⟨⟨h1, h3, hl, hp⟩, h4, h5⟩ := key x hx
  refine ⟨⟨h1, h3, fun k a b p q => ?_, hl⟩, h4, h5⟩
  obtain ⟨hk, e1⟩ := List.getElem?_eq_some_iff.mp p
  obtain ⟨hk2, e2⟩ := List.getElem?_eq_some_iff.mp q
  rw [← e1, ← e2]
  exact List.pairwise_iff_getElem.mp hp k (k + 1) hk hk2 (Nat.lt_succ_self k)
theorem mRepr_eq : ∀ n : Nat, n < 25 → ∀ k : Nat, k < 4 → (((Str.ofString "Machine(" ++ Str.ofString (toString (n : Int))) ++ Str.ofString " states, ") ++ Str.ofString (toString (k : Int))) ++ Str.ofString " letters)" = mRepr n k := by decide +kernel
end K03

/-! the hook: facts by names, defs at any address, one more Bool -/

/-! several except clauses that name the exception; a def called within an except suite, to which the caught exception is told -/
namespace L2
open PySem PySem.Spec PyProof.Rows
abbrev Cl := Value × Nat × (Addr → Value → Option Addr → TS)
/-- what the clauses wish of an exception of the body, one after the other; each names it in a slot of its own -/
def wManyA (K : PySem.W.Frag) (n : Nat) (Wout : WX) (D : Ends) : List Cl → WX
  | [] => Wout
  | (c, i, ts) :: r => fun cls d σ H => ∃ b, PySem.W.exmOne K cls c = some b ∧
      (b = true → ∀ a, H a = none → σ.length = n → ts a cls d { nx := fun σ' H' => D.nx (σ'.set i none) H', rt := D.rt, bk := fun σ' H' => D.bk (σ'.set i none) H', ct := fun σ' H' => D.ct (σ'.set i none) H' } (σ.set i (some (.ref a))) H) ∧
      (b = false → wManyA K n Wout D r cls d σ H)
inductive HdsA (X : Cx) : List ExceptHandler → List Cl → Prop
  | nil : HdsA X [] []
  | cons {x n : Str} {c : Value} {i : Nat} {ts : Addr → Value → Option Addr → TS} {b₀ : Stmt} {suite : List Stmt} {np pos' : Pos} {hds : List ExceptHandler} {l : List Cl} (hc : Names X x c) (hi : X.N[i]? = some n) (hln : X.env.kindOf n = some .local)
      (hsu : ∀ (a : Addr) (oe : Obj) (cls : Value) (d : Option Addr) (pn : List (Addr × Obj)), Zc cls d oe → (∃ vs, oe.data = .fields vs) → PSs (X.suite a ((a, oe) :: pn)) (b₀ :: suite) (ts a cls d)) (r : HdsA X hds l) :
      HdsA X (.ExceptHandler (some (.Name x np)) (some n) (b₀ :: suite) pos' :: hds) ((c, i, ts) :: l)
section
variable {X : Cx} {body : List Stmt} {h₀ : ExceptHandler} {hds : List ExceptHandler} {l : List Cl} {pos : Pos} {tb : WX → TS} {Wout : WX}
theorem ps_try_manyA (hs : X.stack = X.env :: X.outer) (hf : X.env.frame = some X.env.locals) (hN : X.N.Nodup) (tk : Takes X Wout)
    (hb : ∀ (W : WX) (pn : List (Addr × Obj)) (xe : Value → Shared → Prop), Takes (X.tr pn xe) W → PassesOwn (model X.prog X.w) X.A X.env xe → PSs (X.tr pn xe) body (tb W))
    (hh : HdsA X (h₀ :: hds) l) : PS X (.Try body (h₀ :: hds) [] [] pos) (fun D σ H => tb (wManyA X.K X.N.length Wout D l) D σ H) := by
  refine ⟨fun pins s σ H D I h => ?_⟩
  have ok := I.ok
  have hfr : X.A.frames = some (X.env :: X.outer) := by rw [ok.frames, hs]
  refine wpAny_Try_except ?_
  refine wpAny_mono ((hb (wManyA X.K X.N.length Wout D l) (X.pn ++ pins) (fun e s₁ => wpAny (model X.prog X.w) X.A (noteFrame e X.env) (fun _ s₂ => wpAny (model X.prog X.w) X.A (setFlight e none) (fun _ s₃ =>
    wpAny (model X.prog X.w) X.A (handleBy e X.env (h₀ :: hds)) (SP X pins D) X.xe s₃) X.xe s₂) X.xe s₁) (fun u s' xx => ?_) PassesOwn.looking).run [] s σ H D (I.toTry _) h) (fun f s1 hsp => ?_) (fun e s1 he => he)
  · obtain ⟨a, B, sI, pins', σ', H', cls, d, rfl, J', nb, up, sky, na, os, ag, w⟩ := xx
    have J : Inv X pins σ' H' sI := J'.ofTry ok
    have sky' : Sky B (X.env :: X.outer) a (Zc cls d) X.env.locals s'.heap := by rw [← hs]; exact sky
    show wpAny (model X.prog X.w) X.A (noteFrame (.ref a) X.env) _ _ _
    refine Sky.land Zc.steady hfr hf sky' fun h3 fl3 up3 => ?_
    have J3 : Inv X pins σ' H' { s' with heap := h3 } := J.landed nb fl3.1 (up.trans up3) os ag
    obtain ⟨oe3, vs3, he3, hz3, hd3⟩ := fl3.there
    have nfr : a ∉ frs (X.env :: X.outer) := fun hm => by
      obtain ⟨_, o', e', hnf⟩ := fl3.2.2.1.mem hm
      rw [he3] at e'; cases e'
      exact hnf _ hd3
    have nL : a ≠ X.env.locals := fun z => nfr (List.mem_filterMap.mpr ⟨X.env, List.mem_cons_self, by rw [hf, z]⟩)
    have nF : a ∉ X.fs := fun hm => by
      obtain ⟨e, he, q⟩ := List.mem_filterMap.mp hm
      exact nfr (List.mem_filterMap.mpr ⟨e, List.mem_cons_of_mem _ he, q⟩)
    have S3 := J3.suite he3 hd3 na nL nF
    have go : ∀ {hds' : List ExceptHandler} {l' : List Cl}, HdsA X hds' l' → wManyA X.K X.N.length Wout D l' cls d σ' H' →
        wpAny (model X.prog X.w) X.A (handleBy (.ref a) X.env hds') (SP X pins D) X.xe { s' with heap := h3 } := by
      intro hds' l' hk
      induction hk with
      | nil =>
        intro w
        refine wpAny_handleBy_nil ?_
        obtain ⟨k1, k2, k3, oe, vs, T, oT, ts', he, hz, hd, h1, hr⟩ := id fl3
        unfold PySem.passOn
        refine wpAny_bind (wpAny_field he hd h1 ?_)
        rw [if_neg (show ¬ ((Value.ref T == Value.none) = true) from by simp)]
        have fin : wpAny (model X.prog X.w) X.A (setFlight (.ref a) X.env.frame) (fun _ s4 => wpAny (model X.prog X.w) X.A (throw (.ref a) : Sem Flow) (SP X pins D) X.xe s4) X.xe { s' with heap := h3 } := by
          rw [hf]
          refine HandSPX.setFlight_upZ fl3 fun h4 hh4 up4 => wpAny_throw (tk _ _ ?_)
          exact ⟨a, B, sI, pins, σ', H', cls, d, rfl, J, nb, (up.trans up3).trans up4, .inr (.inr (by rw [hs]; exact hh4)), na, os, ag, w⟩
        first
          | exact wpAny_bind (wpAny_pure (wpAny_bind fin))
          | exact wpAny_bind fin
      | @cons x n c i ts b₀ suite np pos' hds2 l2 hc hi hln hsu r ih =>
        intro w
        obtain ⟨b, hb1, hyes, hno⟩ := w
        refine wpAny_handleBy_cons (codeAny_handlers_test ?_) (by intro q; cases q)
        have LT : PySem.W.Looks (model X.prog X.w) h3 (typeOf (.ref a)) cls := fun A Q E s k q => wpAny_typeOf_ref (k _ _ he3) (by rw [hz3.1]; exact q)
        have LM := PySem.W.exm_one (M := model X.prog X.w) (J3.kIn) LT hb1
        have test : ∀ {Q : Value → Shared → Prop} {E : Value → Shared → Prop}, Q c { s' with heap := h3 } → wpAny (model X.prog X.w) (X.A.mark (some (.ref a))) (eval (.Name x np) X.env) Q E { s' with heap := h3 } := fun {Q E} q => by
          obtain ⟨hg, hdbg, hm | ⟨hm, hv, hnn⟩⟩ := hc
          · exact ld_glob (X := X.suite a ((a, oe3) :: (X.pn ++ pins))) S3 hg hm q hdbg
          · exact ld_blt (X := X.suite a ((a, oe3) :: (X.pn ++ pins))) S3 hg hm hv q hnn hdbg
        refine test (LM.here ?_)
        cases b with
        | true =>
          refine codeAny_handlers_suite_as ?_
          refine HandSPX.lands_againZ fl3 fun h4 fl4 up4 => ?_
          have J4 : Inv X pins σ' H' { s' with heap := h4 } := J.landed nb fl4.1 ((up.trans up3).trans up4) os ag
          obtain ⟨oe4, vs4, he4, hz4, hd4⟩ := fl4.there
          have S4 := J4.suite he4 hd4 na nL nF
          refine store_ok (X := X.suite a ((a, oe4) :: (X.pn ++ pins))) (v := .ref a) S4 hN hi (.inl hln) rfl (fun s5 S5 => ?_) (.inr hln)
          refine wpAny_mono ((hsu a oe4 cls d (X.pn ++ pins) hz4 ⟨_, hd4⟩).run [] s5 _ H' _ S5 (hyes rfl a na J.len)) (fun f s6 hsp => ?_) (fun _ _ z => False.elim z)
          have end_ : ∀ {σ6 : St} {H6 : Hp} {Q : Shared → Prop}, Inv (X.suite a ((a, oe4) :: (X.pn ++ pins))) [] σ6 H6 s6 → (∀ s7, Inv X pins (σ6.set i none) H6 s7 → Q s7) →
              wpAny (model X.prog X.w) X.A (do bindName X.env n .none; unbindBehindTheSuite X.env n pos') (fun _ s7 => Q s7) X.xe s6 := fun {σ6 H6 Q} S6 hq => gone_ok (S6.unsuite ok) hN hi hln hq
          cases f with
          | next =>
            obtain ⟨σ6, H6, S6, q6⟩ := hsp
            exact end_ S6 fun s7 J7 => ⟨_, _, J7, q6⟩
          | brk =>
            obtain ⟨σ6, H6, S6, q6⟩ := hsp
            exact end_ S6 fun s7 J7 => ⟨_, _, J7, q6⟩
          | cont =>
            obtain ⟨σ6, H6, S6, q6⟩ := hsp
            exact end_ S6 fun s7 J7 => ⟨_, _, J7, q6⟩
          | ret u =>
            obtain ⟨v6, σ6, H6, S6, r6, q6⟩ := hsp
            exact end_ S6 fun s7 J7 => ⟨_, _, _, J7, r6, q6⟩
        | false =>
          show wpAny _ X.A (handleBy (.ref a) X.env hds2) _ _ _
          exact ih (hno rfl)
    exact go hh w
  · cases f with
    | next =>
      obtain ⟨σ', H', J', q⟩ := hsp
      exact wpAny_execs_nil ⟨σ', H', J'.ofTry ok, q⟩
    | brk =>
      obtain ⟨σ', H', J', q⟩ := hsp
      exact ⟨σ', H', J'.ofTry ok, q⟩
    | cont =>
      obtain ⟨σ', H', J', q⟩ := hsp
      exact ⟨σ', H', J'.ofTry ok, q⟩
    | ret u =>
      obtain ⟨v, σ', H', J', r, q⟩ := hsp
      exact ⟨v, σ', H', J'.ofTry ok, r, q⟩
end
/-- err.f of an exception that is pinned -/
theorem pe_xfP {X : Cx} {a C : Addr} {oe : Obj} {cls : Value} {d : Option Addr} {e : Expr} {te : TE} {pos : Pos} {n : Str} (T : XfC X.K C) (hno : PySem.W.findIn X.K (.ref C) n = some none)
    (hp : (a, oe) ∈ X.pn) (hz : Zc cls d oe) (hf : ∃ vs, oe.data = .fields vs) (he : PE X e te) (hb : attributeBase e n X.env (eval e X.env) = eval e X.env := by rfl) :
    PE X (.Attribute e n pos) (tXf a cls d C n te) := by
  refine ⟨fun pins s σ H Q I h => ?_⟩
  refine attr_of hb (thn (he.run pins s σ H _ I h) fun u s1 hh => ?_)
  obtain ⟨x, H1, I1, rx, ex, ec, dd, fs, v, ed, ea, l, q⟩ := hh
  subst ex
  obtain rfl : u = Value.ref a := rx
  subst ec
  subst ed
  obtain ⟨ha, _⟩ := I1.pin (a, oe) (List.mem_append_left _ hp)
  obtain ⟨vs, hd⟩ := hf
  have hx : ObjOk X.prog X.w H1 s1.heap dd (.xd fs) := I1.hok dd _ ea
  obtain ⟨mA, hns, hr⟩ := hx
  obtain ⟨od, ho, hl⟩ := lookIn_ns hns
  obtain ⟨u, hu, ru⟩ := RelO.some_of (v := v) (o := mA n) (by rw [← l]; exact hr n)
  have J : PySem.W.InstAt s1.heap a oe C (some od) := ⟨ha, hz.1, by unfold PySem.W.notCls; rw [hd] <;> rfl, by rw [hz.2]; exact ho⟩
  exact HandSPX.exc_get I1.kIn J T.ga T.gg T.exC (PySem.W.findObj_own T.hdC hno rfl (by rw [hl, hu])) (handed_of ru) ⟨v, H1, I1.tok _, ru, q⟩
/-- an own class whose fields the law reads: it has no such names itself -/
structure TagC (K : PySem.W.Frag) (C : Addr) : Prop where
  xf : XfC K C
  no : ∀ n ∈ tagNs, PySem.W.findIn K (.ref C) n = some none
theorem tagB_ok {K : PySem.W.Frag} {C : Addr} (h : tagB K C = true) : TagC K C := by
  obtain ⟨h1, h2⟩ := Bool.and_eq_true_iff.mp h
  exact ⟨xfB_ok h1, fun n hn => of_decide_eq_true (List.all_eq_true.mp h2 n hn)⟩
/-- the reading: the class is told by the very exception -/
def tXfG (K : PySem.W.Frag) (a : Addr) (cls : Value) (d : Option Addr) (f : Str) (te : TE) : TE := fun σ H Q => te σ H fun x H1 => x = .ref a ∧ ∃ (C dd : Addr) (fs : List (Str × V)) (v : V), cls = .ref C ∧ TagC K C ∧ f ∈ tagNs ∧ d = some dd ∧ H1 dd = some (.xd fs) ∧ fs.lookup f = some v ∧ Q v H1
theorem pe_xfG {X : Cx} {p : Addr × Obj} {cls : Value} {d : Option Addr} {e : Expr} {te : TE} {pos : Pos} {n : Str}
    (hp : p ∈ X.pn) (hz : Zc cls d p.2) (hf : ∃ vs, p.2.data = .fields vs) (he : PE X e te) (hb : attributeBase e n X.env (eval e X.env) = eval e X.env := by rfl) :
    PE X (.Attribute e n pos) (tXfG X.K p.1 cls d n te) := by
  obtain ⟨a, oe⟩ := p
  refine ⟨fun pins s σ H Q I h => ?_⟩
  refine attr_of hb (thn (he.run pins s σ H _ I h) fun u s1 hh => ?_)
  obtain ⟨x, H1, I1, rx, ex, C, dd, fs, v, ec, T, hn, ed, ea, l, q⟩ := hh
  subst ex
  obtain rfl : u = Value.ref a := rx
  subst ec
  subst ed
  obtain ⟨ha, _⟩ := I1.pin (a, oe) (List.mem_append_left _ hp)
  obtain ⟨vs, hd⟩ := hf
  have hx : ObjOk X.prog X.w H1 s1.heap dd (.xd fs) := I1.hok dd _ ea
  obtain ⟨mA, hns, hr⟩ := hx
  obtain ⟨od, ho, hl⟩ := lookIn_ns hns
  obtain ⟨u, hu, ru⟩ := RelO.some_of (v := v) (o := mA n) (by rw [← l]; exact hr n)
  have J : PySem.W.InstAt s1.heap a oe C (some od) := ⟨ha, hz.1, by unfold PySem.W.notCls; rw [hd] <;> rfl, by rw [hz.2]; exact ho⟩
  exact HandSPX.exc_get I1.kIn J T.xf.ga T.xf.gg T.xf.exC (PySem.W.findObj_own T.xf.hdC (T.no n hn) rfl (by rw [hl, hu])) (handed_of ru) ⟨v, H1, I1.tok _, ru, q⟩
open L2H
/-- what a def promises to whom it is told in an except suite; p: the caught exception -/
structure FnC (P : Program) (w : World) (K : PySem.W.Frag) (mg : Str → Option Value) (base : Heap) (CX : CXT) (p : Addr × Obj) (k : Nat) (f : Addr) (fd : FuncData) (ps : List Str) (sp : Sp) : Prop where
  len : ∀ vs H Q E, sp vs H Q E → vs.length = ps.length
  run : ∀ (A : Around) (outer : List Env) (s : Shared) (H : Hp) (args : Args) (us : List Value) (vs : List V) (Q : VK) (E : XK), RoomH k A → PinOk outer H s p → Env0 P w K mg base A outer s H → BindsTo s fd args (ps.zip us) → Vals vs us → sp vs H Q E →
    codeAny (model P w) A (.call (.ref f) args) (CR CX outer P w H s Q E) s
theorem fn_ofC {CX : CXT} {P : Program} {w : World} {K : PySem.W.Frag} {mg : Str → Option Value} {base : Heap} {p : Addr × Obj} {k : Nat} {f : Addr} {name qual : Str} {params : Arguments} {body : List Stmt} {scope : Scope} {dV kV doc pm cdv ct oc : Value} {an od : Option Addr}
    {osl : Array (Option Value)} {N ps : List Str} {sp : Sp} (lk : K.lookup f = some ⟨oc, od, .func (PySem.W.fnOf name qual params body scope dV kV doc pm an cdv ct), osl⟩) (hcd : PySem.W.codeIn K cdv qual = true) (S : FnScope N ps scope)
    (len : ∀ vs H Q E, sp vs H Q E → vs.length = ps.length)
    (hbody : ∀ (A : Around) (outer : List Env) (s : Shared) (H : Hp) (vs : List V) (Q : VK) (E : XK), RoomH k (A.deeper (envOfC qual scope s.heap.objs.size f cdv)) → sp vs H Q E →
      ∃ t, PSs (cxH CX P w K mg base N qual scope f cdv A outer s H E p) body t ∧ t { nx := fun _ H' => Q .non H', rt := Q } (L2.start N vs) H) :
    FnC P w K mg base CX p (k + 1) f (PySem.W.fnOf name qual params body scope dV kV doc pm an cdv ct) ps sp := by
  refine ⟨len, fun A outer s H args us vs Q E hr hpin e0 hb r hsp => ?_⟩
  have hl := len _ _ _ _ hsp
  have KX : K.In s.heap := e0.mod.kin.keeps fun b o e => (e0.bs b o e).1
  have lim : s.heap.NoLimit := e0.mod.nolimit.keeps fun b o e => (e0.bs b o e).1
  have hkind : ∀ y ∈ ps.zip us, scope.names.lookup y.1 = some .local ∨ (scope.names.lookup y.1 = some .cell ∧ ((cellsFrom (s.heap.objs.size + 1) scope.names []).lookup y.1).isSome = true) := fun ⟨n, v⟩ hy => by
    rcases S.par n (List.of_mem_zip hy).1 with q | q
    · exact .inl q
    · exact .inr ⟨q, PySem.W.cellsFrom_some _ _ _ (.inl q)⟩
  refine codeAny_call_function hr.depth (KX _ _ lk) rfl S.co S.gen rfl (PySem.W.codeRec_of KX hcd) (hb _ _ _ _ ?_)
  refine wpAny_newFunctionEnv_cells S.kind hkind fun env he s1 x => ?_
  subst he
  refine ⟨lim.keeps x.toInCall.keep, codeAny_func ?_⟩
  obtain ⟨t, ht, hq⟩ := hbody A outer s H vs Q E (hr.deeper _) hsp
  have I : Inv (cxH CX P w K mg base N qual scope f cdv A outer s H E p) [] (L2.start N vs) H s1 := inv_startH S hpin e0 hl r x
  refine wpAny_mono (ht.run [] s1 (L2.start N vs) H _ I hq) (fun fl s' hs => ?_) fun e s' hs => hs
  have fin : ∀ {σ' : L2.St} {H' : Hp} {v : V} {u : Value}, Inv (cxH CX P w K mg base N qual scope f cdv A outer s H E p) [] σ' H' s' → RelV v u → Q v H' → CE outer P w H s Q u s' :=
    fun {σ' H' v u} J rv q => ⟨v, H', J.os, J.bare, J.base, J.hok, rv, q⟩
  cases fl with
  | ret u =>
    obtain ⟨v, σ', H', J, rv, q⟩ := hs
    exact fin J rv q
  | next =>
    obtain ⟨σ', H', J, q⟩ := hs
    exact fin (v := V.non) (u := Value.none) J rfl q
  | brk =>
    obtain ⟨_, _, _, q⟩ := hs
    exact False.elim q
  | cont =>
    obtain ⟨_, _, _, q⟩ := hs
    exact False.elim q
theorem FunD.okC {CX : CXT} {P : Program} {w : World} {K : PySem.W.Frag} {mg : Str → Option Value} {base : Heap} {x qual : Str} {params : Arguments} {body : List Stmt} {scope : Scope} {dvs : List V} {kws : List (Str × V)} {f : Addr} {fd : FuncData} {p : Addr × Obj} {N ps : List Str} {k : Nat} {sp : Sp}
    (F : FunD K x qual params body scope dvs kws f fd) (S : FnScope N ps scope) (len : ∀ vs H Q E, sp vs H Q E → vs.length = ps.length)
    (hbody : ∀ (cdv : Value) (A : Around) (outer : List Env) (s : Shared) (H : Hp) (vs : List V) (Q : VK) (E : XK), RoomH k (A.deeper (envOfC qual scope s.heap.objs.size f cdv)) → sp vs H Q E →
      ∃ t, PSs (cxH CX P w K mg base N qual scope f cdv A outer s H E p) body t ∧ t { nx := fun _ H' => Q .non H', rt := Q } (start N vs) H) : FnC P w K mg base CX p (k + 1) f fd ps sp := by
  obtain ⟨oc, od, dV, kV, doc, pm, an, cdv, ct, osl, rfl, lk, hcd, _, _⟩ := F.ex
  exact fn_ofC lk hcd S len fun A outer s H vs Q E hr hsp => hbody cdv A outer s H vs Q E hr hsp
theorem pe_callC {X : Cx} {CX : CXT} {p : Addr × Obj} {k : Nat} {f : Addr} {fd : FuncData} {ps : List Str} {sp : Sp} {E : XK} {x : Str} {q pos : Pos} {e : Expr} {es : List Expr} {t : TA} (F : FnC X.prog X.w X.K X.mg X.base CX p k f fd ps sp) (hr : RoomH k X.A) (hp : p ∈ X.pn) (hg : Gl X x) (hm : X.mg x = some (.ref f))
    (hk : PySem.W.keepIn X.K (.ref f) = true) (hb : Binds X.K fd ps []) (hx : Passes CX X E)
    (ha : PA X (e :: es) t) (hdb : (x == ("__debug__" : Str)) = false := by decide) (he : starEach (e :: es) X.env = (false, eval e X.env) :: starEach es X.env := by rfl) (hpl : (backTo pos (starEach es X.env)).any (·.1) = false := by rfl) :
    PE X (.Call (.Name x q) (e :: es) [] pos) (fun σ H Q => t σ H fun vs H1 => sp vs H1 Q E) := by
  refine ⟨fun pins s σ H Q I h => ?_⟩
  refine wpAny_Call_Name_kw (ld_glob I hg hm ?_ hdb)
  refine PySem.W.callWith_K (h₀ := X.base) I.ok.mod.kin hk (thn (ha.run pos pins s σ H _ I h) fun us s1 ⟨vs, H1, I1, r, q⟩ => ⟨I1.kIn, ?_⟩) he hpl
  have hl : us.length = ps.length := by rw [← r.length]; exact F.len _ _ _ _ q
  have b := hb s1 us I1.kIn (by rw [List.append_nil]; exact hl)
  rw [List.append_nil] at b
  have P1 := I1.pin p (List.mem_append_left _ hp)
  have hpin : PinOk X.stack H1 s1 p := ⟨P1.1, P1.2.1, fun hm => (List.mem_cons.mp (I1.stkSub p.1 hm)).elim P1.2.2.1 P1.2.2.2.1, P1.2.2.2.2⟩
  refine wpAny_call (codeAny_mono (F.run X.A X.stack s1 H1 ⟨us, []⟩ us vs Q E hr hpin I1.env0 b r q) fun r s' hq => ?_)
  cases r with
  | error e => exact hx pins σ H1 s1 e s' I1 hq
  | ok fl =>
    cases fl with
    | ret u => exact I1.after hq
    | next => exact False.elim hq
    | brk => exact False.elim hq
    | cont => exact False.elim hq
end L2

-- base: law_k52_report_texts
/-! _law_field, told of a caught exception -/
namespace K03
open PySem L2 L2H Evl OxK
def nm6 : List V := [.str "InvalidStates", .str "InvalidState", .str "InvalidWord", .str "InvalidCount", .str "InvalidIndex", .str "InvalidLimit"]
def nm3 : List V := [.str "InvalidName", .str "DuplicateName", .str "UnknownName"]
/-- what the law reads of an exception of the name tg with the fields fs -/
def fldV (tg : Str) (fs : List (Str × V)) : Option V :=
  if inV (.str tg) nm6 = true then fs.lookup ("given" : Str) else if V.str tg = .str "TooMany" then fs.lookup ("most" : Str) else if inV (.str tg) nm3 = true then fs.lookup ("name" : Str)
  else if V.str tg = .str "InvalidMove" then fs.lookup ("index" : Str) else if V.str tg = .str "CapacityExceeded" then fs.lookup ("limit" : Str) else if V.str tg = .str "InvalidCommand" then fs.lookup ("word" : Str) else if V.str tg = .str "ParseError" then fs.lookup ("line" : Str) else some .non
def spFld (K : PySem.W.Frag) (a : Addr) (cls : Value) (d : Option Addr) : Sp := fun vs H Q _ => ∃ (C dd : Addr) (fs : List (Str × V)) (tg : Str) (v : V), vs = [.ref a] ∧ cls = .ref C ∧ TagC K C ∧ d = some dd ∧ H dd = some (.xd fs) ∧ fs.lookup ("tag" : Str) = some (.str tg) ∧ fldV tg fs = some v ∧ ∀ H', Ex H H' → Q v H'
section
variable {P : Program} {w : World} {K : PySem.W.Frag} {mg : Str → Option Value} {base : Heap} {f : Addr} {fd : FuncData}
theorem scFld : FnScope ["_law_e"] ["_law_e"] (defScope sFeld) := ⟨rfl, rfl, rfl, by decide +kernel, rfl, by decide +kernel, by decide +kernel⟩
theorem ok_fld {CX : CXT} {p : Addr × Obj} {cls : Value} {d : Option Addr} (F : FnP K "_law_field" sFeld f fd) (hz : Zc cls d p.2) (hf : ∃ vs, p.2.data = .fields vs) : FnC P w K mg base CX p 1 f fd ["_law_e"] (spFld K p.1 cls d) := by
  refine F.okC scFld (fun vs H Q E h => ?_) (fun cdv A outer s H vs Q E hr h => ?_)
  · obtain ⟨C, dd, fs, tg, v, rfl, _⟩ := h
    rfl
  · obtain ⟨C, dd, fs, tg, v, rfl, hC, T, hd, hx, ht, hv, q⟩ := h
    have hp : p ∈ (cxH CX P w K mg base ["_law_e"] "_law_field" (defScope sFeld) f cdv A outer s H E p).pn := List.mem_singleton_self p
    have ex : ∀ {H1 : Hp} {a : Addr} {o : HO}, Ex H H1 → H1 a = none → Ex H (upd H1 a o) := fun e n b o' h => by rw [upd_ne (ne_of_none (e b o' h) n)]; exact e b o' h
    have e0 : Ex H H := fun _ _ h => h
    refine ⟨_, (pss_cons (ps_if (pt_cmpR op_in_seq (pe_xfG (n := "tag") hp hz hf (pv 0)) (pe_lst (pa_cons pe_str (pa_cons pe_str (pa_cons pe_str (pa_cons pe_str (pa_cons pe_str (pa_cons pe_str pa_nil))))))) (by with_unfolding_all rfl)) (pss_one (ps_ret (pe_xfG (n := "given") hp hz hf (pv 0)))) pss_nil)
      (pss_cons (ps_if (pt_cmpR op_eq (pe_xfG (n := "tag") hp hz hf (pv 0)) pe_str (nomark _)) (pss_one (ps_ret (pe_xfG (n := "most") hp hz hf (pv 0)))) pss_nil)
      (pss_cons (ps_if (pt_cmpR op_in_seq (pe_xfG (n := "tag") hp hz hf (pv 0)) (pe_lst (pa_cons pe_str (pa_cons pe_str (pa_cons pe_str pa_nil)))) (by with_unfolding_all rfl)) (pss_one (ps_ret (pe_xfG (n := "name") hp hz hf (pv 0)))) pss_nil)
      (pss_cons (ps_if (pt_cmpR op_eq (pe_xfG (n := "tag") hp hz hf (pv 0)) pe_str (nomark _)) (pss_one (ps_ret (pe_xfG (n := "index") hp hz hf (pv 0)))) pss_nil)
      (pss_cons (ps_if (pt_cmpR op_eq (pe_xfG (n := "tag") hp hz hf (pv 0)) pe_str (nomark _)) (pss_one (ps_ret (pe_xfG (n := "limit") hp hz hf (pv 0)))) pss_nil)
      (pss_cons (ps_if (pt_cmpR op_eq (pe_xfG (n := "tag") hp hz hf (pv 0)) pe_str (nomark _)) (pss_one (ps_ret (pe_xfG (n := "word") hp hz hf (pv 0)))) pss_nil)
      (pss_one (ps_ret (pe_ifExp (pt_cmpR op_eq (pe_xfG (n := "tag") hp hz hf (pv 0)) pe_str (nomark _)) (pe_xfG (n := "line") hp hz hf (pv 0)) pe_non))))))))), ?_⟩
    unfold fldV at hv
    refine ⟨_, rfl, rfl, C, dd, fs, _, hC, T, by decide, hd, e0 _ _ hx, ht, ?_⟩
    refine ⟨by decide, fun a1 n1 => ⟨a1, nm6, rfl, .inl (SqL.of upd_same), rfl, rfl, _, rfl, ?_⟩⟩
    have e1 := ex (o := .lst nm6) e0 n1
    refine ite2 (fun h => ?_) (fun h => ?_)
    · rw [if_pos (show inV (.str tg) nm6 = true from h)] at hv
      exact ⟨_, rfl, rfl, C, dd, fs, _, hC, T, by decide, hd, e1 _ _ hx, hv, q _ e1⟩
    rw [if_neg (show ¬ inV (.str tg) nm6 = true from h)] at hv
    refine ⟨_, rfl, rfl, C, dd, fs, _, hC, T, by decide, hd, e1 _ _ hx, ht, ?_⟩
    refine ⟨rfl, _, rfl, ?_⟩
    refine ite2 (fun h => ?_) (fun h => ?_)
    · rw [if_pos (of_decide_eq_true h)] at hv
      exact ⟨_, rfl, rfl, C, dd, fs, _, hC, T, by decide, hd, e1 _ _ hx, hv, q _ e1⟩
    rw [if_neg (fun z => h (decide_eq_true z))] at hv
    refine ⟨_, rfl, rfl, C, dd, fs, _, hC, T, by decide, hd, e1 _ _ hx, ht, ?_⟩
    refine ⟨by decide, fun a2 n2 => ⟨a2, nm3, rfl, .inl (SqL.of upd_same), rfl, rfl, _, rfl, ?_⟩⟩
    have e2 := ex (o := .lst nm3) e1 n2
    refine ite2 (fun h => ?_) (fun h => ?_)
    · rw [if_pos (show inV (.str tg) nm3 = true from h)] at hv
      exact ⟨_, rfl, rfl, C, dd, fs, _, hC, T, by decide, hd, e2 _ _ hx, hv, q _ e2⟩
    rw [if_neg (show ¬ inV (.str tg) nm3 = true from h)] at hv
    refine ⟨_, rfl, rfl, C, dd, fs, _, hC, T, by decide, hd, e2 _ _ hx, ht, ?_⟩
    refine ⟨rfl, _, rfl, ?_⟩
    refine ite2 (fun h => ?_) (fun h => ?_)
    · rw [if_pos (of_decide_eq_true h)] at hv
      exact ⟨_, rfl, rfl, C, dd, fs, _, hC, T, by decide, hd, e2 _ _ hx, hv, q _ e2⟩
    rw [if_neg (fun z => h (decide_eq_true z))] at hv
    refine ⟨_, rfl, rfl, C, dd, fs, _, hC, T, by decide, hd, e2 _ _ hx, ht, ?_⟩
    refine ⟨rfl, _, rfl, ?_⟩
    refine ite2 (fun h => ?_) (fun h => ?_)
    · rw [if_pos (of_decide_eq_true h)] at hv
      exact ⟨_, rfl, rfl, C, dd, fs, _, hC, T, by decide, hd, e2 _ _ hx, hv, q _ e2⟩
    rw [if_neg (fun z => h (decide_eq_true z))] at hv
    refine ⟨_, rfl, rfl, C, dd, fs, _, hC, T, by decide, hd, e2 _ _ hx, ht, ?_⟩
    refine ⟨rfl, _, rfl, ?_⟩
    refine ite2 (fun h => ?_) (fun h => ?_)
    · rw [if_pos (of_decide_eq_true h)] at hv
      exact ⟨_, rfl, rfl, C, dd, fs, _, hC, T, by decide, hd, e2 _ _ hx, hv, q _ e2⟩
    rw [if_neg (fun z => h (decide_eq_true z))] at hv
    refine ⟨_, rfl, rfl, C, dd, fs, _, hC, T, by decide, hd, e2 _ _ hx, ht, ?_⟩
    refine ⟨rfl, _, rfl, ?_⟩
    refine ite2 (fun h => ?_) (fun h => ?_)
    · rw [if_pos (of_decide_eq_true h)] at hv
      exact ⟨_, rfl, rfl, C, dd, fs, _, hC, T, by decide, hd, e2 _ _ hx, hv, q _ e2⟩
    · rw [if_neg (fun z => h (decide_eq_true z))] at hv
      cases hv
      exact q _ e2
end
end K03

-- base: law_k52_report_texts
/-! _law_try, handed a lambda -/
namespace K03
open PySem L2 L2H LamX Evl OxK
/-- what the law makes of an exception that it catches -/
def Caught (K : PySem.W.Frag) (C1 C2 C3 : Addr) (Q : VK) (cls : Value) (d : Option Addr) (H' : Hp) : Prop :=
  ∃ (C dd : Addr) (fs : List (Str × V)) (tg : Str) (v : V), cls = .ref C ∧ TagC K C ∧ d = some dd ∧ H' dd = some (.xd fs) ∧ fs.lookup ("tag" : Str) = some (.str tg) ∧
    ((PySem.W.exmOne K cls (.ref C1) = some true ∧ fldV tg fs = some v) ∨ (PySem.W.exmOne K cls (.ref C1) = some false ∧ PySem.W.exmOne K cls (.ref C2) = some true ∧ fldV tg fs = some v) ∨
      (PySem.W.exmOne K cls (.ref C1) = some false ∧ PySem.W.exmOne K cls (.ref C2) = some false ∧ PySem.W.exmOne K cls (.ref C3) = some true ∧ v = .non)) ∧
    ∀ p H'', H' p = none → Ex H' H'' → H'' p = some (.tup [.str tg, v]) → Q (.ref p) H''
def TTry (K : PySem.W.Frag) (C1 C2 C3 : Addr) : (XK → Hp → VK → Prop) → Hp → VK → Prop := fun tl H Q =>
  tl (Caught K C1 C2 C3 Q) H fun v H' => [V.str "value", v].length ≤ sizeLine ∧ ∀ p, H' p = none → Q (.ref p) (upd H' p (.tup [.str "value", v]))
abbrev tsA (K : PySem.W.Frag) : Addr → Value → Option Addr → TS := fun a cls d => tRet (tTup (tCons (tXfG K a cls d "tag" (tVar 1)) (tCons (fun σ H Q => (tCons (tVar 1) tNil) σ H fun vs H1 => spFld K a cls d vs H1 Q E0) tNil)))
abbrev tsB (K : PySem.W.Frag) : Addr → Value → Option Addr → TS := fun a cls d => tRet (tTup (tCons (tXfG K a cls d "tag" (tVar 1)) (tCons (tC .non) tNil)))
section
variable {P : Program} {w : World} {K : PySem.W.Frag} {mg : Str → Option Value} {base : Heap} {f : Addr} {fd : FuncData}
theorem scTry : FnScope ["_law_ask", "_law_e"] ["_law_ask"] (defScope sTry) := ⟨rfl, rfl, rfl, by decide +kernel, rfl, by decide +kernel, by decide +kernel⟩
theorem try_gives {X : Cx} {fF g C1 C2 C3 : Addr} {fdF : FuncData} {cdg : Value} {k : Nat} {q : Str} (FF : FnP X.K "_law_field" sFeld fF fdF) (gF : X.mg "_law_field" = some (.ref fF)) (kF : PySem.W.keepIn X.K (.ref fF) = true) (bF : Binds X.K fdF ["_law_e"] [])
    (g1 : X.mg "TeamError" = some (.ref C1)) (g2 : X.mg "Missing" = some (.ref C2)) (g3 : X.mg "NothingLeft" = some (.ref C3)) (hr : Room 3 X.A) :
    GivesTo X ["_law_ask", "_law_e"] "_law_try" (defScope sTry) g cdg (defBody sTry) "_law_ask" q (TTry X.K C1 C2 C3) := by
  intro f c' s H Q tl act hc h
  have hrH : ∀ {env : Env} {z : Option Value}, RoomH 1 ((X.A.deeper env).mark z) := fun {env z} => by
    have r := (roomH_of hr).deeper env
    exact ⟨by have := r.dp; show (X.A.deeper env).depth + 3 * 1 + 5 < _; omega, by have := r.un; show (X.A.deeper env).units + 16 * 1 + 200 < _; omega⟩
  have nm : ∀ {x : Str} {C : Addr}, (defScope sTry).names.lookup x = some .globalImplicit → (x == ("__debug__" : Str)) = false → X.mg x = some (.ref C) → Names (cxOf C8.CX0 X.prog X.w X.K X.mg X.base ["_law_ask", "_law_e"] "_law_try" (defScope sTry) g cdg X.A X.stack s H C8.E0).nox x (.ref C) := fun h1 h2 h3 => ⟨h1, h2, .inl h3⟩
  refine ⟨_, pss_one (ps_try_manyA (X := (cxOf C8.CX0 X.prog X.w X.K X.mg X.base ["_law_ask", "_law_e"] "_law_try" (defScope sTry) g cdg X.A X.stack s H C8.E0).nox)
      (tb := fun W D σ H => ∃ Ech : XK, (∀ cls d σ' H', Ech cls d H' → W cls d σ' H') ∧ σ[0]? = some (some (.ref f)) ∧ H c' = some (CodeO c' q) ∧ tl Ech H (fun v H' => [V.str "value", v].length ≤ sizeLine ∧ ∀ p, H' p = none → D.rt (.ref p) (upd H' p (.tup [.str "value", v]))))
      rfl rfl scTry.nd takes0 (fun W pn xe tk _ => ?_)
      (HdsA.cons (nm rfl (by decide) g1) (ts := tsA X.K) (i := 1) rfl rfl (fun a oe cls d pn hz hf => ?_) (HdsA.cons (nm rfl (by decide) g2) (ts := tsA X.K) (i := 1) rfl rfl (fun a oe cls d pn hz hf => ?_) (HdsA.cons (nm rfl (by decide) g3) (ts := tsB X.K) (i := 1) rfl rfl (fun a oe cls d pn hz hf => ?_) HdsA.nil)))), ?_⟩
  · refine ⟨fun pins s' σ H' D I h' => ?_⟩
    obtain ⟨Ech, hW, h1, h2, h3⟩ := h'
    refine (pss_one (ps_ret (pe_tup (pa_cons pe_str (pa_cons (act W pn xe Ech _ _ tk hW) pa_nil))))).run pins s' σ H' D I ?_
    exact ⟨h1, h2, h3⟩
  · exact pss_one (ps_ret (pe_tup (pa_cons (pe_xfG (p := (a, oe)) (n := "tag") List.mem_cons_self hz hf (pv 1)) (pa_cons (pe_callC (CX := CX0) (E := E0) (ok_fld (p := (a, oe)) FF hz hf) hrH List.mem_cons_self rfl gF kF bF pass0 (pa_cons (pv 1) pa_nil)) pa_nil))))
  · exact pss_one (ps_ret (pe_tup (pa_cons (pe_xfG (p := (a, oe)) (n := "tag") List.mem_cons_self hz hf (pv 1)) (pa_cons (pe_callC (CX := CX0) (E := E0) (ok_fld (p := (a, oe)) FF hz hf) hrH List.mem_cons_self rfl gF kF bF pass0 (pa_cons (pv 1) pa_nil)) pa_nil))))
  · exact pss_one (ps_ret (pe_tup (pa_cons (pe_xfG (p := (a, oe)) (n := "tag") List.mem_cons_self hz hf (pv 1)) (pa_cons pe_non pa_nil))))
  · refine ⟨Caught X.K C1 C2 C3 Q, fun cls d σ' H' hC => ?_, rfl, hc, h⟩
    obtain ⟨C, dd, fs, tg, v, ec, T, ed, hx, ht, hk, q⟩ := hC
    have at1 : ∀ {a : Addr}, σ'.length = 2 → (σ'.set 1 (some (V.ref a)))[1]? = some (some (V.ref a)) := fun hl => List.getElem?_set_self (by omega)
    have ex : ∀ {H1 : Hp} {a : Addr} {o : HO}, Ex H' H1 → H1 a = none → Ex H' (upd H1 a o) := fun e n b o' h => by rw [upd_ne (ne_of_none (e b o' h) n)]; exact e b o' h
    have fldA : fldV tg fs = some v → ∀ (D : Ends), D.rt = Q → ∀ a, H' a = none → σ'.length = 2 → tsA X.K a cls d D (σ'.set 1 (some (.ref a))) H' := fun hv D hD a na hl => by
      refine ⟨_, at1 hl, rfl, C, dd, fs, _, ec, T, by decide, ed, hx, ht, _, at1 hl, C, dd, fs, tg, v, rfl, ec, T, ed, hx, ht, hv, fun H2 e2 => ⟨(show (2 : Nat) ≤ sizeLine by decide), fun p hp => ?_⟩⟩
      rw [hD]
      refine q _ _ ?_ (ex e2 hp) upd_same
      cases z : H' p with
      | none => rfl
      | some o =>
        rw [e2 _ _ z] at hp
        cases hp
    rcases hk with ⟨k1, hv⟩ | ⟨k1, k2, hv⟩ | ⟨k1, k2, k3, hv⟩
    · exact ⟨true, k1, fun _ a na hl => fldA hv _ rfl a na hl, (fun z => by cases z)⟩
    · exact ⟨false, k1, (fun z => by cases z), fun _ => ⟨true, k2, fun _ a na hl => fldA hv _ rfl a na hl, (fun z => by cases z)⟩⟩
    · refine ⟨false, k1, (fun z => by cases z), fun _ => ⟨false, k2, (fun z => by cases z), fun _ => ⟨true, k3, fun _ a na hl => ?_, (fun z => by cases z)⟩⟩⟩
      subst hv
      refine ⟨_, at1 hl, rfl, C, dd, fs, _, ec, T, by decide, ed, hx, ht, (show (2 : Nat) ≤ sizeLine by decide), fun p hp => q _ _ hp (ex (fun _ _ h => h) hp) upd_same⟩
end
end K03

/-! copied of data of any depth -/
namespace K03
open PySem L2 Evl OxK
/-- what is new in H' -/
def nw (H H' : Hp) : Hp := fun b => match H b with | none => H' b | some _ => none
def dl (D : Addr) (H : Hp) : Hp := fun b => if b = D then none else H b
theorem nw_some {H H' : Hp} {b : Addr} {o : HO} (h : nw H H' b = some o) : H b = none ∧ H' b = some o := by
  unfold nw at h
  split at h
  · rename_i e
    exact ⟨e, h⟩
  · cases h
theorem nw_of {H H' : Hp} {b : Addr} {o : HO} (h : H b = none) (h' : H' b = some o) : nw H H' b = some o := by
  unfold nw
  rw [h]
  exact h'
theorem nw_ex {H H' : Hp} : Ex (nw H H') H' := fun _ _ h => (nw_some h).2
theorem nw_mono {H0 H H' : Hp} (e : Ex H0 H) : Ex (nw H H') (nw H0 H') := fun b o h => by
  obtain ⟨h1, h2⟩ := nw_some h
  refine nw_of ?_ h2
  cases q : H0 b with
  | none => rfl
  | some u => rw [e b u q] at h1; cases h1
theorem nw_up {H H' H'' : Hp} (e : Ex H' H'') : Ex (nw H H') (nw H H'') := fun b o h => by
  obtain ⟨h1, h2⟩ := nw_some h
  exact nw_of h1 (e _ _ h2)
theorem dl_some {D : Addr} {H : Hp} {b : Addr} {o : HO} (h : dl D H b = some o) : b ≠ D ∧ H b = some o := by
  unfold dl at h
  split at h
  · cases h
  · rename_i e
    exact ⟨e, h⟩
theorem dl_of {D : Addr} {H : Hp} {b : Addr} {o : HO} (n : b ≠ D) (h : H b = some o) : dl D H b = some o := by
  unfold dl
  rw [if_neg n]
  exact h
/-- copied of data -/
def spCpN (n : Nat) : Sp := fun vs H Q _ => ∃ (v : V) (d : Dt), vs = [v] ∧ Has H n v d ∧ ∀ v' H', Ex H H' → Has (nw H H') n v' d → Q v' H'
section
variable {P : Program} {w : World} {K : PySem.W.Frag} {mg : Str → Option Value} {base : Heap} {f : Addr} {fd : FuncData}
/-- what stands of the copies behind i turns -/
def CpT (H0 : Hp) (D : Addr) (n : Nat) (ds : List Dt) (i : Nat) (H' : Hp) : Prop := Ex H0 H' ∧ ∃ us : List V, H' D = some (.lst us) ∧ us.length = i ∧ ∀ (j : Nat) (x : V) (y : Dt), us[j]? = some x → ds[j]? = some y → Has (dl D (nw H0 H')) n x y
theorem cpt_step {H0 H' H4 : Hp} {D : Addr} {n i : Nat} {ds : List Dt} {u : V} {y : Dt} (hD : H0 D = none) (p : CpT H0 D n ds i H') (hy : ds[i]? = some y) (e : Ex H' H4) (hu : Has (nw H' H4) n u y) (hi : i < 1000) :
    ∃ acc, H4 D = some (.lst acc) ∧ acc.length < sizeLine ∧ CpT H0 D n ds (i + 1) (upd H4 D (.lst (acc ++ [u]))) := by
  obtain ⟨e0, us, h1, h2, h3⟩ := p
  refine ⟨us, e _ _ h1, small1000 (by omega), Ex.mut (e0.trans e) hD, us ++ [u], upd_same, by simp [h2], fun j x y' g1 g2 => ?_⟩
  by_cases hj : j < us.length
  · rw [List.getElem?_append_left hj] at g1
    refine (h3 j x y' g1 g2).ex fun b o z => ?_
    obtain ⟨z1, z2⟩ := dl_some z
    obtain ⟨z3, z4⟩ := nw_some z2
    exact dl_of z1 (nw_of z3 (by rw [upd_ne z1]; exact e _ _ z4))
  · have hl := (List.getElem?_eq_some_iff.mp g1).1
    simp at hl
    obtain rfl : j = i := by omega
    rw [List.getElem?_append_right (by omega)] at g1
    simp [h2] at g1
    subst g1
    rw [hy] at g2
    cases g2
    refine hu.ex fun b o z => ?_
    obtain ⟨z1, z2⟩ := nw_some z
    have nb : b ≠ D := fun q => by rw [q, h1] at z1; cases z1
    refine dl_of nb (nw_of ?_ (by rw [upd_ne nb]; exact z2))
    cases q : H0 b with
    | none => rfl
    | some u => rw [e0 _ _ q] at z1; cases z1
theorem ok_cpN0 (F : FnP K "copied" sCop f fd) (T : NoB mg) (nd : mg "dict" = none) : FnOk P w K mg base CX0 1 f fd ["value"] (spCpN 0) := by
  have G := ok_cpF (P := P) (w := w) (base := base) F T nd
  refine ⟨fun vs H Q E h => ?_, fun A outer s H args us vs Q E hr he hb hv h => ?_⟩
  · obtain ⟨v, d, rfl, _⟩ := h
    rfl
  · obtain ⟨v, d, rfl, ⟨fl, rfl⟩, k⟩ := h
    exact G.run A outer s H args us [v] Q E hr he hb hv ⟨v, rfl, fl, k v H (Ex.refl _) ⟨fl, rfl⟩⟩
theorem ok_cpN (F : FnP K "copied" sCop f fd) (T : NoB mg) (nd : mg "dict" = none) (gC : mg "copied" = some (.ref f)) : ∀ n, FnOk P w K mg base CX0 (n + 1) f fd ["value"] (spCpN n)
  | 0 => ok_cpN0 F T nd
  | n + 1 => by
    have G1 : FnOk P w K mg base CX0 (n + 1) f fd ["value"] (spCpN n) := ok_cpN F T nd gC n
    have b1 : Binds K fd ["value"] [] := F.bindsN fun _ _ _ _ _ _ us hl => match us, hl with | [_], _ => rfl
    refine F.ok scC (fun vs H Q E h => ?_) (fun cdv A outer s H vs Q E hr h => ?_)
    · obtain ⟨v, d, rfl, _⟩ := h
      rfl
    · obtain ⟨v, d, rfl, hv, k⟩ := h
      refine ⟨_, PSs.nox (pss_cons (ps_if (pt_val (pe_callB call_isi (by rfl) T.isi PyProof.Rows.boot_isinstance (pa_cons (pv 0) (pa_cons (pe_bltn (v := .ty "list") (by rfl) T.lst PyProof.Rows.boot_list rfl) pa_nil))))
            (pss_one (ps_ret (pe_lc (own := [("item", 1)]) (g := gName 1) (tt := tYes) (by rfl) scC.nd (pi_list (pv 0)) (blkOk_by (own := [("item", 1)]) (N := ["value", "item", "key"]) (sc := defScope sCop) (by decide +kernel))
              (fun _ _ _ _ _ => pg_name (i := 1) scC.nd rfl (Or.inl rfl)) (fun _ _ _ _ _ => pts_nil)
              (fun _ _ _ _ _ => pe_call G1 (hr.mono (by omega)) rfl gC F.kp b1 .nil pass0 (pa_cons (pv 1) pa_nil))))) pss_nil)
        (pss_cons (ps_if (pt_val (pe_callB call_isi (by rfl) T.isi PyProof.Rows.boot_isinstance (pa_cons (pv 0) (pa_cons (pe_bltn (v := .ty "tuple") (by rfl) T.tup PyProof.Rows.boot_tuple rfl) pa_nil))))
          (pss_one (ps_ret (pe_callTy call_tuple_of (by rfl) T.tup PyProof.Rows.boot_tuple (pa_cons (pe_lc (own := [("item", 1)]) (g := gName 1) (tt := tYes) (by rfl) scC.nd (pi_tup (pv 0)) (blkOk_by (own := [("item", 1)]) (N := ["value", "item", "key"]) (sc := defScope sCop) (by decide +kernel))
            (fun _ _ _ _ _ => pg_name (i := 1) scC.nd rfl (Or.inl rfl)) (fun _ _ _ _ _ => pts_nil)
            (fun _ _ _ _ _ => pe_call G1 (hr.mono (by omega)) rfl gC F.kp b1 .nil pass0 (pa_cons (pv 1) pa_nil))) pa_nil)))) pss_nil)
        (pss_cons (ps_if (pt_val (pe_callB call_isi (by rfl) T.isi PyProof.Rows.boot_isinstance (pa_cons (pv 0) (pa_cons (pe_bltn (v := .ty "dict") (by rfl) nd (by decide +kernel) rfl) pa_nil)))) (pss_one ps_never) pss_nil)
        (pss_one (ps_ret (pv 0)))))), ?_⟩
      rcases hv with ⟨fl, rfl⟩ | ⟨a, vs, ds, rfl, hk, hl, hb, hi⟩
      · refine ⟨_, rfl, v, .ty "list", _, _, false, rfl, .ty "list", flat_ty fl, flat_list fl, false, rfl, iteF ?_⟩
        refine ⟨_, rfl, v, .ty "tuple", _, _, false, rfl, .ty "tuple", flat_ty fl, flat_tuple fl, false, rfl, iteF ?_⟩
        refine ⟨_, rfl, v, .ty "dict", _, _, false, rfl, .ty "dict", flat_ty fl, flat_dict fl, false, rfl, iteF ?_⟩
        exact ⟨_, rfl, k v H (Ex.refl _) (.inl ⟨fl, rfl⟩)⟩
      rcases hk with ⟨ha, rfl⟩ | ⟨ha, rfl⟩
      · refine ⟨_, rfl, .ref a, .ty "list", _, _, true, rfl, .ty "list", .base (.lst ha), lst_list, true, rfl, iteT ?_⟩
        refine ⟨_, rfl, a, rfl, ⟨_, SqL.of ha⟩, fun D hD => lc_list (K := K) (a := a) (xs := vs) (CpT H D n ds) ⟨Ex.new hD, [], upd_same, rfl, fun j x y h => nomatch h⟩ ?_ ?_ ?_⟩
        · rintro i H' hi ⟨e, _⟩
          exact SqL.of (e _ _ ha)
        · rintro i x H' hx p
          have hi' : i < vs.length := (List.getElem?_eq_some_iff.mp hx).1
          have hy : ds[i]? = some ds[i] := List.getElem?_eq_getElem (by omega)
          refine ⟨rfl, tt_yes ⟨_, rfl, x, ds[i], rfl, (hi i x _ hx hy).ex p.1, fun v' H4 e4 hv' => cpt_step hD p hy e4 hv' (by omega)⟩⟩
        · rintro H' ⟨e, us, h1, h2, h3⟩
          refine k _ _ e (.inr ⟨D, us, ds, rfl, .inl ⟨nw_of hD h1, rfl⟩, by omega, by omega, fun i x y g1 g2 => (h3 i x y g1 g2).ex fun b o z => (dl_some z).2⟩)
      · refine ⟨_, rfl, .ref a, .ty "list", _, _, false, rfl, .ty "list", .base (.tup ha), tup_list, false, rfl, iteF ?_⟩
        refine ⟨_, rfl, .ref a, .ty "tuple", _, _, true, rfl, .ty "tuple", .base (.tup ha), tup_tuple, true, rfl, iteT ?_⟩
        refine ⟨_, rfl, a, rfl, ⟨_, SqT.of ha⟩, fun D hD => lc_tup (K := K) (a := a) (xs := vs) (CpT H D n ds) ⟨Ex.new hD, [], upd_same, rfl, fun j x y h => nomatch h⟩ ?_ ?_ ?_⟩
        · rintro i H' hi ⟨e, _⟩
          exact SqT.of (e _ _ ha)
        · rintro i x H' hx p
          have hi' : i < vs.length := (List.getElem?_eq_some_iff.mp hx).1
          have hy : ds[i]? = some ds[i] := List.getElem?_eq_getElem (by omega)
          refine ⟨rfl, tt_yes ⟨_, rfl, x, ds[i], rfl, (hi i x _ hx hy).ex p.1, fun v' H4 e4 hv' => cpt_step hD p hy e4 hv' (by omega)⟩⟩
        · rintro H' ⟨e, us, h1, h2, h3⟩
          refine ⟨D, us, rfl, .inl ⟨SqL.of h1, fun b hb => ?_⟩⟩
          refine k _ _ (e.trans (Ex.new hb)) (.inr ⟨b, us, ds, rfl, .inr ⟨nw_of (fresh_back e hb) upd_same, rfl⟩, by omega, by omega, fun i x y g1 g2 => (h3 i x y g1 g2).ex fun c o z => ?_⟩)
          exact nw_up (Ex.new hb) _ _ (dl_some z).2
end
end K03

/-! lambdas that are kept (in a list), with no parameter or one with a constant default, and called later -/
namespace LamV
open PySem PySem.Spec PyProof.Rows L2 LamX
structure LF where
  qual : Str
  params : Arguments
  body : Expr
  scope : Scope
  cl : List (Str × Addr)
  c : Addr
  dV : Value
abbrev LF.fd (F : LF) (doc pm ctv : Value) : FuncData := PySem.W.kdv_fn "<lambda>" F.qual F.params (.expr F.body) F.scope F.cl F.dV doc pm (.ref F.c) ctv
/-- the function object at f -/
def LamO (f : Addr) (F : LF) : HO := .ext fun h => ∃ (od : Option Addr) (sl : Array (Option Value)) (doc pm ctv : Value), h.get? f = some (⟨.type "function", od, .func (F.fd doc pm ctv), sl⟩ : Obj)
/-- the tuple of one default -/
def ZeroO (T : Addr) : HO := .ext fun h => ∃ (o : Obj) (u : Value) (n : Nat), h.get? T = some o ∧ o.data = .seq #[u] n
def DfO (H : Hp) (v : Value) : Nat → Prop
  | 0 => v = .none
  | 1 => ∃ T, v = .ref T ∧ H T = some (ZeroO T)
  | _ => False
def LamAt (H : Hp) (f : Addr) (F : LF) : Prop := H f = some (LamO f F) ∧ H F.c = some (CodeO F.c F.qual) ∧ DfO H F.dV F.params.defaults.length
theorem DfO.ext {H H' : Hp} {v : Value} : ∀ {n : Nat}, DfO H v n → (∀ b o, H b = some o → (∀ ps, o ≠ .tbl ps) → H' b = some o) → DfO H' v n
  | 0, d, _ => d
  | 1, ⟨T, e, h⟩, k => ⟨T, e, k _ _ h fun ps z => by unfold ZeroO at z; cases z⟩
  | _ + 2, d, _ => d.elim
theorem LamAt.ext {H H' : Hp} {f : Addr} {F : LF} (L : LamAt H f F) (k : ExtN H H') : LamAt H' f F :=
  ⟨k _ _ L.1 (fun ps z => by unfold LamO at z; cases z), k _ _ L.2.1 codeO_ne, L.2.2.ext k⟩
theorem LamAt.ex {H H' : Hp} {f : Addr} {F : LF} (L : LamAt H f F) (k : ∀ b o, H b = some o → H' b = some o) : LamAt H' f F := L.ext (ExtN.of k)
theorem lamO_at {P : Program} {w : World} {H : Hp} {h : Heap} {f : Addr} {F : LF} (hok : HOk P w H h) (e : H f = some (LamO f F)) : ∃ (od : Option Addr) (sl : Array (Option Value)) (doc pm ctv : Value), h.get? f = some (⟨.type "function", od, .func (F.fd doc pm ctv), sl⟩ : Obj) := by
  obtain ⟨z, _, _⟩ := hok f _ e
  exact z
/-- how the lambda's parameters are bound -/
inductive BndP (params : Arguments) (body : Expr) (scope : Scope) : Prop
  | no (h0 : params.defaults = []) (h : ∀ q cl cv doc pm ctv, bindArgs (PySem.W.kdv_fn "<lambda>" q params (.expr body) scope cl .none doc pm cv ctv) ⟨[], []⟩ = pure [])
  | one (x : Str) (h0 : params.defaults.length = 1) (hx : scope.names.lookup x = some .local)
      (h : ∀ q cl T cv doc pm ctv, ∃ k, bindArgs (PySem.W.kdv_fn "<lambda>" q params (.expr body) scope cl (.ref T) doc pm cv ctv) ⟨[], []⟩ = (seqItems? (.ref T) >>= k) ∧ ∀ u, k (some #[u]) = pure [(x, u)])
/-- the lambda's names: no cell of its own, and no local one that the maker knows -/
structure LamS2 (N : List Str) (sc scope : Scope) : Prop where
  kind : scope.kind = .function
  co : scope.isCoroutine = false
  gen : scope.isGenerator = false
  own : ∀ y ∈ scope.names, y.2 ≠ .cell ∧ (y.2 = .local → y.1 ∉ N)
  free : ∀ y ∈ scope.names, y.2 = .free → sc.names.lookup y.1 = some .cell ∨ sc.names.lookup y.1 = some .free
def lamS2B (N : List Str) (sc scope : Scope) : Bool :=
  decide (scope.kind = .function) && !scope.isCoroutine && !scope.isGenerator && scope.names.all fun y => !decide (y.2 = .cell) && (!decide (y.2 = .local) || !decide (y.1 ∈ N)) && (!decide (y.2 = .free) || decide (sc.names.lookup y.1 = some .cell) || decide (sc.names.lookup y.1 = some .free))
theorem lamS2_by {N : List Str} {sc scope : Scope} (h : lamS2B N sc scope = true) : LamS2 N sc scope := by
  unfold lamS2B at h
  simp only [Bool.and_eq_true, Bool.or_eq_true, Bool.not_eq_true', decide_eq_true_eq, decide_eq_false_iff_not, List.all_eq_true] at h
  obtain ⟨⟨⟨h1, h2⟩, h3⟩, h4⟩ := h
  refine ⟨h1, h2, h3, fun y hy => ⟨(h4 y hy).1.1, fun e => ?_⟩, fun y hy e => ?_⟩
  · rcases (h4 y hy).1.2 with z | z
    · exact absurd e z
    · exact z
  · rcases (h4 y hy).2 with (z | z) | z
    · exact absurd e z
    · exact .inl z
    · exact .inr z
theorem LamS2.has {X : Cx} {scope : Scope} {N : List Str} (L : LamS2 N X.env.scope scope) (ok : X.Ok) : ∀ y ∈ scope.names, y.2 = .free → ∃ c, X.env.cells.lookup y.1 = some c := fun y hy e => by
  rcases L.free y hy e with k | k
  · exact ok.has _ (.inl k)
  · exact ok.has _ (.inr k)
/-- the context of the lambda's body over another base -/
def lamCxB (X : Cx) (base : Heap) (A : Around) (outer : List Env) (s : Shared) (H : Hp) (E : XK) (scope : Scope) (f c' : Addr) : Cx := { lamCx X A outer s H E scope f c' with base := base }
/-- what the lambda's body makes -/
structure LamTold (X : Cx) (k : Nat) (params : Arguments) (body : Expr) (scope : Scope) (t : XK → TE) : Prop where
  L : LamS2 X.N X.env.scope scope
  bind : BndP params body scope
  run : ∀ (base : Heap) (A : Around) (outer : List Env) (s : Shared) (H : Hp) (E : XK) (f c' : Addr), Room k (A.deeper (lamEnv X scope s.heap.objs.size f c')) → PE (lamCxB X base A outer s H E scope f c') body (t E)
/-- a call of the lambda, over a base -/
def LamRunB (P : Program) (w : World) (K : PySem.W.Frag) (mg : Str → Option Value) (base : Heap) (k : Nat) (f : Addr) (F : LF) (t : XK → Hp → VK → Prop) : Prop :=
  ∀ (A : Around) (outer : List Env) (s : Shared) (H : Hp) (Q : VK) (E : XK), Room k A → Env0 P w K mg base A outer s H → LamAt H f F → t E H Q → codeAny (model P w) A (.call (.ref f) ⟨[], []⟩) (CR (L2.CX P w) outer P w H s Q E) s
abbrev mkLF (X : Cx) (params : Arguments) (body : Expr) (scope : Scope) (c' : Addr) (dV : Value) : LF := ⟨X.env.qual ++ "<lambda>", params, body, scope, cloFrom X.env.cells scope.names [], c', dV⟩
section
variable {X : Cx} {pins : List (Addr × Obj)} {σ : L2.St} {H : Hp} {s : Shared}
/-- the tail of the making: its code object is new, or found in the table -/
theorem lam_tail {T : List (Addr × Str)} {c P : Addr} {params : Arguments} {body : Expr} {scope : Scope} {pos : Pos} {dV : Value} {E : Value → Shared → Prop} {Q : Value → Shared → Prop} (I : Inv X pins σ H s) (TB : TabB X.base X.mg c P) (hcode : X.env.code = .ref c)
    (hm : (P, X.env.qual ++ "<lambda>") ∈ T) (hu : ∀ p ∈ T, p.1 = P → p.2 = X.env.qual ++ "<lambda>") (hT : Tabs T H) (hfree : ∀ y ∈ scope.names, y.2 = .free → ∃ c, X.env.cells.lookup y.1 = some c) (hd : DfO H dV params.defaults.length)
    (h : ∀ (f c' : Addr) (H1 : Hp) (s' : Shared), Inv X pins σ H1 s' → ExtN H H1 → (∀ b, H1 b = none → H b = none) → Tabs T H1 → H f = none → LamAt H1 f (mkLF X params body scope c' dV) → Q (.ref f) s') :
    wpAny (model X.prog X.w) X.A (makeTail "<lambda>" (X.env.qual ++ "<lambda>") params (.expr body) scope X.env dV .none none pos pos.line) Q E s := by
  obtain ⟨ps, hP, ht, ha⟩ := hT _ hm
  have bP : s.heap.BuiltinsAt X.mg P := TB.bm.keeps I.bk
  have hP' : s.heap.get? P = some { cls := .none, data := .fields ps } := I.hok P _ hP
  have lay : ∀ {H1 : Hp} {h1 : Heap} {tk : Tok} {c' : Addr} {doc pm ctv : Value}, Inv X pins σ H1 { s with heap := h1, toks := tk } → 
      Inv X pins σ (upd H1 h1.objs.size (LamO h1.objs.size (mkLF X params body scope c' dV))) { s with heap := h1.push (PySem.W.kdv_obj "<lambda>" (X.env.qual ++ "<lambda>") params (.expr body) scope (cloFrom X.env.cells scope.names []) dV doc pm c' ctv), toks := tk } := fun {H1 h1 tk c' doc pm ctv} I1 => by
    refine I1.laid (a := h1.objs.size) (fun b u e => Heap.get?_push_of_some _ e) (Nat.le_refl _) ?_
    have e : (h1.push (PySem.W.kdv_obj "<lambda>" (X.env.qual ++ "<lambda>") params (.expr body) scope (cloFrom X.env.cells scope.names []) dV doc pm c' ctv)).get? h1.objs.size = some (PySem.W.kdv_obj "<lambda>" (X.env.qual ++ "<lambda>") params (.expr body) scope (cloFrom X.env.cells scope.names []) dV doc pm c' ctv) := Heap.get?_push_size _ rfl
    exact ⟨⟨_, _, doc, pm, ctv, e⟩, ⟨_, e⟩, fun h1 h2 ⟨od, sl, d, p, t, z⟩ st => ⟨od, sl, d, p, t, st _ z⟩⟩
  cases hc : codeAmong pos ps.toList with
  | none =>
    refine PySem.W.kdv_makeTail (mg := X.mg) (c := c) (P := P) (ps := ps) (closure_ok hfree) I.ok.glob (I.mod.glob.keeps I.bk) hcode (TB.code.keeps I.bk) hP' ht hc TB.gP bP fun c' ctv doc h' tk hx hge hlt hrec htb => ?_
    obtain ⟨c2, oc, vs, t, e2, hoc, hd', hv⟩ := hrec
    cases e2
    have nC : H c' = none := I.hok.fresh hge
    have I1 := inv_table (t' := tk) (more := #[rawInt pos.line, rawInt pos.col, .ref c']) (h' := h') I hP (fun b o hb e => hx b o hb e) htb hge ⟨oc, vs, t, hoc, hd', hv⟩
    have hE : ExtN H (upd (upd H P (.tbl (ps ++ #[rawInt pos.line, rawInt pos.col, .ref c']))) c' (CodeO c' (X.env.qual ++ "<lambda>"))) := fun b o e n => by
      rw [upd_ne (ne_of_none e nC), upd_ne (fun z => n ps (Option.some.inj (e.symm.trans (by rw [z]; exact hP))))]
      exact e
    have eL : (ps ++ #[rawInt pos.line, rawInt pos.col, .ref c']).toList = ps.toList ++ [rawInt pos.line, rawInt pos.col, .ref c'] := by simp
    have T1 : Tabs T (upd (upd H P (.tbl (ps ++ #[rawInt pos.line, rawInt pos.col, .ref c']))) c' (CodeO c' (X.env.qual ++ "<lambda>"))) := fun p hp => by
      by_cases hb : p.1 = P
      · rw [hu p hp hb, hb]
        refine ⟨_, by rw [upd_ne (ne_of_none hP nC), upd_same], by rw [eL]; exact PySem.TriplesOk_snoc _ _ _ _ ht, fun p' cv hcv => ?_⟩
        rw [eL] at hcv
        rcases among_app _ ht hcv with z | z
        · obtain ⟨c0, e1, e2⟩ := ha p' cv z
          exact ⟨c0, e1, hE _ _ e2 codeO_ne⟩
        · exact ⟨c', z, upd_same⟩
      · obtain ⟨ps', a1, a2, a3⟩ := hT p hp
        refine ⟨ps', by rw [upd_ne (ne_of_none a1 nC), upd_ne hb]; exact a1, a2, fun p' cv hcv => ?_⟩
        obtain ⟨c0, e1, e2⟩ := a3 p' cv hcv
        exact ⟨c0, e1, hE _ _ e2 codeO_ne⟩
    have nF := I1.hok.fresh (Nat.le_refl _)
    have I2 := lay (c' := c') (doc := doc) (pm := (X.mg "__name__").getD .none) (ctv := ctv) I1
    have eX : ∀ b o, upd (upd H P (.tbl (ps ++ #[rawInt pos.line, rawInt pos.col, .ref c']))) c' (CodeO c' (X.env.qual ++ "<lambda>")) b = some o → upd (upd (upd H P (.tbl (ps ++ #[rawInt pos.line, rawInt pos.col, .ref c']))) c' (CodeO c' (X.env.qual ++ "<lambda>"))) h'.objs.size (LamO h'.objs.size (mkLF X params body scope c' dV)) b = some o := fun b o e => (upd_ne (ne_of_none e nF)).trans e
    refine h h'.objs.size c' _ _ I2 (hE.trans (ExtN.of eX)) (fun b e => NdefX.upd_none (NdefX.upd_none (NdefX.upd_none e))) (T1.ext eX) (I.hok.fresh (Nat.le_trans hge (Nat.le_of_lt hlt))) ⟨upd_same, eX _ _ upd_same, hd.ext (hE.trans (ExtN.of eX))⟩
  | some cv =>
    obtain ⟨c', e, hco⟩ := ha pos cv hc
    subst e
    refine PySem.W.kdv_makeTailHit (mg := X.mg) (c := c) (P := P) (ps := ps) (closure_ok hfree) I.ok.glob (I.mod.glob.keeps I.bk) hcode (TB.code.keeps I.bk) hP' ht hc bP fun ctv doc h' tk hx hsz => ?_
    have I1 : Inv X pins σ H { s with heap := h', toks := tk } := I.kept hx
    have nF : H h'.objs.size = none := I1.hok.fresh (Nat.le_refl _)
    have I2 := lay (c' := c') (doc := doc) (pm := (X.mg "__name__").getD .none) (ctv := ctv) I1
    have eX : ∀ b o, H b = some o → upd H h'.objs.size (LamO h'.objs.size (mkLF X params body scope c' dV)) b = some o := fun b o e => (upd_ne (ne_of_none e nF)).trans e
    exact h h'.objs.size c' _ _ I2 (ExtN.of eX) (fun b e => NdefX.upd_none e) (hT.ext eX) nF ⟨upd_same, eX _ _ hco, hd.ext (ExtN.of eX)⟩
end
/-- the reading of a lambda: a new function -/
def tMkLam (T : List (Addr × Str)) (mk : Addr → Value → LF) : TE := fun σ H Q => Tabs T H ∧ ∀ (f c' : Addr) (dV : Value) (H1 : Hp), ExtN H H1 → (∀ b, H1 b = none → H b = none) → Tabs T H1 → H f = none → LamAt H1 f (mk c' dV) → Q (.ref f) H1
section
variable {X : Cx}
theorem pe_lam0 {T : List (Addr × Str)} {c P : Addr} {params : Arguments} {body : Expr} {scope : Scope} {lpos : Pos} (TB : TabB X.base X.mg c P) (hcode : X.env.code = .ref c) (hmT : (P, X.env.qual ++ "<lambda>") ∈ T) (hu : ∀ p ∈ T, p.1 = P → p.2 = X.env.qual ++ "<lambda>")
    (L : LamS2 X.N X.env.scope scope) (hd0 : params.defaults = []) (hdef : defaultsOf params X.env = ([], [])) : PE X (.Lambda params body scope lpos) (tMkLam T (mkLF X params body scope)) := by
  refine ⟨fun pins s σ H Q I h => ?_⟩
  obtain ⟨hT, h⟩ := h
  refine PySem.W.kla_eval hdef ?_
  rw [makeFunction_eq]
  simp only [List.zip_nil_right, List.filterMap_nil, List.isEmpty_nil, if_true, pure_bind]
  refine lam_tail I TB hcode hmT hu hT (L.has I.ok) (dV := .none) (by rw [hd0]; exact rfl) fun f c' H1 s' I1 e1 n1 T1 nf at1 => ?_
  exact ⟨.ref f, H1, I1, rfl, h f c' _ H1 e1 n1 T1 nf at1⟩
theorem pe_lam1 {T : List (Addr × Str)} {c P : Addr} {params : Arguments} {body d : Expr} {scope : Scope} {lpos : Pos} {v : V} (TB : TabB X.base X.mg c P) (hcode : X.env.code = .ref c) (hmT : (P, X.env.qual ++ "<lambda>") ∈ T) (hu : ∀ p ∈ T, p.1 = P → p.2 = X.env.qual ++ "<lambda>")
    (L : LamS2 X.N X.env.scope scope) (hd : params.defaults = [d]) (hk0 : params.kw_defaults = []) (he : PE X d (tC v)) : PE X (.Lambda params body scope lpos) (tMkLam T (mkLF X params body scope)) := by
  refine ⟨fun pins s σ H Q I h => ?_⟩
  obtain ⟨hT, h⟩ := h
  refine PySem.W.kdv_lam (by rw [hd]; rfl) hk0 ?_
  rw [hd]
  refine PySem.W.kdv_all1 (thn (he.run pins s σ H (fun v' H1 => H1 = H) I rfl) fun u s1 ⟨v', H1, I1, r1, q1⟩ => PySem.W.kdv_all0 ?_)
  subst q1
  rw [makeFunction_eq]
  simp only [List.zip_nil_right, List.filterMap_nil, List.isEmpty_nil, if_true, pure_bind, List.isEmpty_cons, Bool.false_eq_true, if_false]
  refine wpAny_bind (wpAny_newTextTuple ?_)
  have nT := I1.hok.fresh (Nat.le_refl s1.heap.objs.size)
  have e : (s1.heap.push ({ cls := .type "tuple", data := .seq [u].toArray } : Obj)).get? s1.heap.objs.size = some ({ cls := .type "tuple", data := .seq [u].toArray } : Obj) := Heap.get?_push_size _ rfl
  have I2 : Inv X pins σ (upd H1 s1.heap.objs.size (ZeroO s1.heap.objs.size)) { s1 with heap := s1.heap.push { cls := .type "tuple", data := .seq [u].toArray } } := by
    refine I1.laid (a := s1.heap.objs.size) (t' := s1.toks) (fun b u e => Heap.get?_push_of_some _ e) (Nat.le_refl _) ?_
    exact ⟨⟨_, u, _, e, rfl⟩, ⟨_, e⟩, fun h1 h2 ⟨o, u, n, z, y⟩ st => ⟨o, u, n, st _ z, y⟩⟩
  have eX : ∀ b o, H1 b = some o → upd H1 s1.heap.objs.size (ZeroO s1.heap.objs.size) b = some o := fun b o e => (upd_ne (ne_of_none e nT)).trans e
  refine lam_tail I2 TB hcode hmT hu (hT.ext eX) (L.has I.ok) (dV := .ref s1.heap.objs.size) (by rw [hd]; exact ⟨_, rfl, upd_same⟩) fun f c' H2 s' I3 e1 n1 T1 nf at1 => ?_
  exact ⟨.ref f, H2, I3, rfl, h f c' _ H2 ((ExtN.of eX).trans e1) (fun b z => NdefX.upd_none (n1 b z)) T1 (NdefX.upd_none nf) at1⟩
end
/-! ### a base of the very heap -/
def baseOf (h : Heap) (H : Hp) (l : List Env) : Heap := PySem.W.hideAll h (trk h H ++ frs l)
section
variable {X : Cx} {pins : List (Addr × Obj)} {σ : L2.St} {H : Hp} {s : Shared}
theorem baseOf_get {h : Heap} {H : Hp} {l : List Env} {b : Addr} {o : Obj} (e : h.get? b = some o) (n : H b = none) (hf : b ∉ frs l) : (baseOf h H l).get? b = some o :=
  PySem.W.hideAll_get _ e fun hm => by
    rcases List.mem_append.mp hm with hm | hm
    · have q : (H b).isSome = true := (List.mem_filter.mp hm).2
      rw [n] at q; simp at q
    · exact hf hm
theorem of_baseOf {h : Heap} {H : Hp} {l : List Env} {b : Addr} {o : Obj} (e : (baseOf h H l).get? b = some o) : h.get? b = some o ∧ H b = none := by
  have e' : h.get? b = some o := PySem.W.of_hideAll _ e
  refine ⟨e', ?_⟩
  cases q : H b with
  | none => rfl
  | some x =>
    have hm : b ∈ trk h H ++ frs l := List.mem_append_left _ (List.mem_filter.mpr ⟨List.mem_range.mpr (Heap.lt_size e'), by rw [q]; rfl⟩)
    have z : (baseOf h H l).get? b = none := PySem.W.hideAll_none _ hm
    rw [z] at e
    cases e
theorem frames_base {h base : Heap} {H : Hp} {l l' : List Env} (F : h.FunFrames base l') (hs : ∀ b ∈ frs l', b ∈ frs l) : h.FunFrames (baseOf h H l) l' := by
  induction l' with
  | nil => trivial
  | cons env rest ih =>
    obtain ⟨hk, ⟨L, o, hf, hn, ho, hd⟩, hr⟩ := F
    have sub : ∀ b ∈ frs rest, b ∈ frs l := fun b hb => hs b (by
      unfold frs
      rw [List.filterMap_cons, hf]
      exact List.mem_cons_of_mem _ hb)
    have hL : L ∈ frs l := hs L (by
      unfold frs
      rw [List.filterMap_cons, hf]
      exact List.mem_cons_self)
    exact ⟨hk, ⟨L, o, hf, PySem.W.hideAll_none _ (List.mem_append_right _ hL), ho, hd⟩, ih hr sub⟩
theorem base_in (I : Inv X pins σ H s) : ∀ b o, X.base.get? b = some o → (baseOf s.heap H X.stack).get? b = some o := fun b o e =>
  baseOf_get (I.bs b o e).1 (I.bs b o e).2 fun z => by
    have q := (I.stack.mem z).1
    rw [e] at q
    cases q
theorem env0_baseOf (I : Inv X pins σ H s) : Env0 X.prog X.w X.K X.mg (baseOf s.heap H X.stack) X.A X.stack s H := by
  have k := base_in I
  refine ⟨I.ok.frames, ⟨I.mod.kin.keeps k, I.mod.glob.keeps k, ?_, I.mod.nolimit.keeps k⟩, fun b o e => of_baseOf e, Nat.le_of_eq (PySem.W.hideAll_size _ _), frames_base I.stack fun _ z => z, I.stkFree, I.hok, I.bare⟩
  obtain ⟨mb, h1, h2⟩ := I.mod.blt
  exact ⟨mb, h1.keeps k, h2⟩
end

section
variable {X : Cx} {pins : List (Addr × Obj)} {σ : L2.St} {H HZ : Hp} {s s1 : Shared}
theorem lam_start3 {base : Heap} {A : Around} {outer : List Env} {E : XK} {scope : Scope} {f c' : Addr} {h₁ : Heap} {tk : Nat} {binds : List (Str × Value)} (I : Inv X pins σ H s) (L : LamS2 X.N X.env.scope scope) (e0 : Env0 X.prog X.w X.K X.mg base A outer s1 HZ) (hd : A.handled = none)
    (cellK : ∀ {c : Addr} {v : Option Value} {x : Str}, X.env.cells.lookup x = some c → s.heap.IsCell c v → h₁.IsCell c v) (cellN : ∀ {c : Addr} {x : Str}, X.env.cells.lookup x = some c → HZ c = none)
    (hns : h₁.Ns s1.heap.objs.size fun y => binds.reverse.lookup y) (kp : ∀ b o, s1.heap.get? b = some o → h₁.get? b = some o) :
    Inv (lamCxB X base A outer s1 HZ E scope f c') [] σ HZ { s1 with heap := h₁, toks := tk } := by
  have hfree := L.has I.ok
  have cm : ∀ {y c}, (cloFrom X.env.cells scope.names []).lookup y = some c → X.env.cells.lookup y = some c := fun {y c} e => by
    rcases cloFrom_mem (PySem.mem_of_lookup e) with hm | ⟨h1, h2⟩
    · cases hm
    · obtain ⟨c1, hc⟩ := hfree _ h1 rfl
      have hc : X.env.cells.lookup y = some c1 := hc
      have e2 : c = c1 := by
        rw [h2, hc] <;> rfl
      rw [e2]
      exact hc
  have look : ∀ {y}, scope.names.lookup y = some .free → ∃ c, (cloFrom X.env.cells scope.names []).lookup y = some c := fun {y} hl => by
    have hy : (y, NameKind.free) ∈ scope.names := PySem.mem_of_lookup hl
    exact mem_lookup (cloFrom_has (cells := X.env.cells) (acc := []) hy)
  have noA : ∀ b : Addr, b ∉ (lamCxB X base A outer s1 HZ E scope f c').ex := fun b z => absurd (show b ∈ ([] : List Addr) from z) (by simp)
  refine ⟨⟨e0.mod, L.kind, rfl, rfl, Nat.le_refl _, fun y z c e1 e2 => I.ok.inj y z c (cm e1) (cm e2), fun y hy => ?_, fun y c z _ => ?_, fun _ => hd, Around.frames_deeper e0.frames, .inr ⟨rfl, rfl⟩, fun b z => absurd z (noA b), e0.bs, e0.bsz, fun b _ _ => noA b,
      fun b z => absurd z (noA b), e0.funs, e0.frf⟩,
    rfl, e0.bare, Un.kept kp, ⟨_, hns, fun i y v e1 e2 e3 => ?_⟩, fun y c e => ?_, e0.hok.fresh (Nat.le_refl _), fun y c e => cellN (cm e), fun q hq => absurd (show q ∈ ([] : List (Addr × Obj)) ++ [] from hq) (by simp), e0.hok.kept kp, I.len⟩
  · have hy : scope.names.lookup y = some .cell ∨ scope.names.lookup y = some .free := hy
    rcases hy with hy | hy
    · exact absurd rfl (L.own _ (PySem.mem_of_lookup hy)).1
    · exact look hy
  · have z : false = true := z
    cases z
  · have e3 : Vis scope y := e3
    rcases e3 with k | k | k
    · exact absurd (List.mem_of_getElem? (show X.N[i]? = some y from e1)) ((L.own _ (PySem.mem_of_lookup k)).2 rfl)
    · exact absurd rfl (L.own _ (PySem.mem_of_lookup k)).1
    · obtain ⟨m, hn, hl⟩ := I.loc
      have hvis : Vis X.env.scope y := (L.free _ (PySem.mem_of_lookup k) rfl).elim (fun k => .inr (.inl k)) (fun k => .inr (.inr k))
      obtain ⟨w', r, q⟩ := hl i y v e1 e2 hvis
      obtain ⟨c2, h2⟩ := look k
      refine ⟨w', r, .inr ⟨.inr k, c2, h2, ?_⟩⟩
      have c1 := cm h2
      rcases q with ⟨k', _⟩ | ⟨_, c3, e', z⟩
      · have k' : X.env.scope.names.lookup y = some .local := k'
        rcases L.free _ (PySem.mem_of_lookup k) rfl with k2 | k2 <;> rw [show X.env.scope.names.lookup y = _ from k2] at k' <;> cases k'
      · rw [c1] at e'
        cases e'
        exact cellK c1 z
  · obtain ⟨w', z⟩ := I.cell y c (cm e)
    exact ⟨w', cellK (cm e) z⟩
/-- a call of the lambda from anywhere, the maker's state being (s, H) -/
theorem lam_runB {k : Nat} {params : Arguments} {body : Expr} {scope : Scope} {t : XK → TE} {c' : Addr} {dV : Value} {f : Addr} (I : Inv X pins σ H s) (hfn : ∀ x, X.fn x = true) (LT : LamTold X k params body scope t) :
    LamRunB X.prog X.w X.K X.mg (baseOf s.heap H X.stack) (k + 1) f (mkLF X params body scope c' dV) (fun E H' Q' => t E σ H' Q') := by
  intro A outer s1 H1 Q E hr e0 hat ht
  have L := LT.L
  obtain ⟨od, sl, doc, pm, ctv, of1⟩ := lamO_at e0.hok hat.1
  have hcd := NdefX.codeO_at e0.hok hat.2.1
  have lim : s1.heap.NoLimit := e0.mod.nolimit.keeps fun b o e => (e0.bs b o e).1
  have cst : ∀ {c : Addr} {x : Str}, X.env.cells.lookup x = some c → c ∉ frs X.stack := fun {c x} hc hm => by
    obtain ⟨v, oc, ho, hd⟩ := I.cell x c hc
    rcases List.mem_cons.mp (I.stkSub _ hm) with e | e
    · obtain ⟨m, ⟨o, es, ep, e1, e2, _⟩, _⟩ := I.loc
      rw [← e, ho] at e1
      cases e1
      rw [hd] at e2
      cases e2
    · have h1 := I.ok.cab x c (hfn x) hc
      obtain ⟨_, o', e', _⟩ := I.ok.funs.mem e
      exact Nat.lt_irrefl _ (Nat.lt_of_lt_of_le (Heap.lt_size e') h1)
  have cb : ∀ {c : Addr} {x : Str} {o : Obj}, X.env.cells.lookup x = some c → s.heap.get? c = some o → (baseOf s.heap H X.stack).get? c = some o := fun {c x o} hc ho => baseOf_get ho (I.freeC x c hc) (cst hc)
  have go : ∀ (binds : List (Str × Value)), BindsTo s1 ((mkLF X params body scope c' dV).fd doc pm ctv) ⟨[], []⟩ binds → (∀ y ∈ binds, scope.names.lookup y.1 = some .local) → codeAny (model X.prog X.w) A (.call (.ref f) ⟨[], []⟩) (CR (L2.CX X.prog X.w) outer X.prog X.w H1 s1 Q E) s1 := by
    intro binds hb hbl
    refine PySem.W.kla_callFunE hr.depth of1 rfl L.co L.gen rfl hcd (hb _ _ _ _ ?_)
    refine wpAny_newFunctionEnv (fun y hy => (L.own y hy).1) hbl (fun h₁ hns hsb => ⟨lim.fresh _ hsb, ?_⟩) L.kind
    show codeAny _ _ (.expr body (lamEnv X scope s1.heap.objs.size f c')) _ _
    have kp : ∀ b o, s1.heap.get? b = some o → h₁.get? b = some o := fun b o e => hsb.extBut b o (Nat.ne_of_lt (Heap.lt_size e)) (Heap.get?_push_of_some _ e)
    have J : Inv (lamCxB X (baseOf s.heap H X.stack) A outer s1 H1 E scope f c') [] σ H1 { s1 with heap := h₁, toks := s1.toks + binds.length } :=
      lam_start3 I L e0 hr.hd (fun {c v x} hc ⟨o, ho, hd⟩ => ⟨o, kp _ _ (e0.bs _ _ (cb hc ho)).1, hd⟩) (fun {c x} hc => by
        obtain ⟨v, o, ho, hd⟩ := I.cell x c hc
        exact (e0.bs _ _ (cb hc ho)).2) hns kp
    refine PySem.W.kla_codeExpr (wpAny_mono ((LT.run _ _ _ s1 H1 E f c' (hr.deeper _)).run [] _ _ H1 Q J ht) (fun v s' hq => ?_) fun e s' hq => hq)
    obtain ⟨w', H', J', rv, q⟩ := hq
    exact ⟨w', H', J'.os, J'.bare, J'.base, J'.hok, rv, q⟩
  have hdf : DfO H1 dV params.defaults.length := hat.2.2
  cases LT.bind with
  | no h0 h =>
    rw [h0] at hdf
    obtain rfl : dV = .none := hdf
    exact go [] (BindsTo.of_eq (h _ _ _ _ _ _)) (fun y hy => nomatch hy)
  | one x h0 hx h =>
    rw [h0] at hdf
    obtain ⟨T, rfl, hT⟩ := hdf
    obtain ⟨⟨o, u, n, ho, hs⟩, _, _⟩ := e0.hok T _ hT
    obtain ⟨kk, h1, h2⟩ := h (X.env.qual ++ "<lambda>") (cloFrom X.env.cells scope.names []) T (.ref c') doc pm ctv
    exact go [(x, u)] (BindsTo.of_defaults (T := T) rfl ho hs h1 (h2 u)) fun y hy => by
      obtain rfl := List.mem_singleton.mp hy
      exact hx
end
/-! ### the call -/
section
variable {X : Cx}
theorem pe_actB {f : Addr} {F : LF} {k i : Nat} {a : Str} {E : XK} {t : XK → Hp → VK → Prop} {p1 p2 : Pos} (R : LamRunB X.prog X.w X.K X.mg X.base k f F t) (hr : Room k X.A) (hx : Passes (L2.CX X.prog X.w) X E)
    (hN : X.N[i]? = some a) (hv : Vis X.env.scope a) (hd : (a == ("__debug__" : Str)) = false := by decide) (hcd : (a == ("__classdict__" : Str)) = false := by decide) :
    PE X (.Call (.Name a p1) [] [] p2) (fun σZ HZ Q => σZ[i]? = some (some (.ref f)) ∧ LamAt HZ f F ∧ t E HZ Q) := by
  refine ⟨fun pins s σ H Q I h => ?_⟩
  obtain ⟨hs, hat, ht⟩ := h
  refine wpAny_Call_Name_kw (thn ((pe_var (pos := p1) (i := i) hN hv hd hcd).run pins s σ H (fun v H1 => v = .ref f ∧ H1 = H) I ⟨.ref f, hs, rfl, rfl⟩) fun u s1 ⟨v, H1, I1, r1, q1⟩ => ?_)
  obtain ⟨ev, eH⟩ := q1
  subst ev
  subst eH
  obtain rfl : u = Value.ref f := r1
  obtain ⟨od, sl, doc, pm, ctv, of1⟩ := lamO_at I1.hok hat.1
  refine PySem.W.callWith_F0 ⟨_, _, _, _, of1⟩ ?_
  refine wpAny_call (codeAny_mono (R X.A X.stack s1 H1 Q E hr I1.env0 hat ht) fun r s' hq => ?_)
  cases r with
  | error e => exact hx pins σ H1 s1 e s' I1 hq
  | ok fl =>
    cases fl with
    | ret u => exact I1.after hq
    | next => exact False.elim hq
    | brk => exact False.elim hq
    | cont => exact False.elim hq
end
end LamV
namespace LamV
open PySem PySem.Spec PyProof.Rows L2 LamX
/-- f(..), the promise told over a base of the very heap, to which the maker's lambdas answer -/
def tCallB (X : Cx) (kk : Nat) (sp : Heap → Sp) (dvs : List V) (E : XK) (t : TA) : TE := fun σ H Q => t σ H fun vs H1 => ∀ base : Heap,
  (∀ {params : Arguments} {body : Expr} {scope : Scope} {te : XK → TE} {c' : Addr} {dV : Value} {f : Addr}, LamTold X kk params body scope te → LamRunB X.prog X.w X.K X.mg base (kk + 1) f (mkLF X params body scope c' dV) (fun E H' Q' => te E σ H' Q')) → sp base (vs ++ dvs) H1 Q E
section
variable {X : Cx} {CX : CXT} {k kk : Nat} {f C : Addr} {fd : FuncData} {ps : List Str} {sp : Heap → Sp} {dvs : List V} {ds : List Value} {E : XK} {x m : Str} {p pos apos : Pos} {e o : Expr} {es : List Expr} {ta : TE} {t : TA}
theorem pe_callB (F : ∀ base, FnOk X.prog X.w X.K X.mg base CX k f fd ps (sp base)) (hr : Room k X.A) (hg : Gl X x) (hm : X.mg x = some (.ref f)) (hk : PySem.W.keepIn X.K (.ref f) = true) (hb : Binds X.K fd ps ds) (hd : Vals dvs ds) (hx : Passes CX X E) (hfn : ∀ x, X.fn x = true)
    (ha : PA X (e :: es) t) (hdb : (x == ("__debug__" : Str)) = false := by decide) (he : starEach (e :: es) X.env = (false, eval e X.env) :: starEach es X.env := by rfl) (hpl : (backTo pos (starEach es X.env)).any (·.1) = false := by rfl) :
    PE X (.Call (.Name x p) (e :: es) [] pos) (tCallB X kk sp dvs E t) := by
  refine ⟨fun pins s σ H Q I h => ?_⟩
  refine wpAny_Call_Name_kw (ld_glob I hg hm ?_ hdb)
  refine PySem.W.callWith_K (h₀ := X.base) I.ok.mod.kin hk (thn (ha.run pos pins s σ H _ I h) fun us s1 ⟨vs, H1, I1, r, q⟩ => ⟨I1.kIn, ?_⟩) he hpl
  have h := q _ (fun LT => lam_runB I1 hfn LT)
  have r2 : Vals (vs ++ dvs) (us ++ ds) := r.append hd
  have hl : (us ++ ds).length = ps.length := by rw [← r2.length]; exact (F _).len _ _ _ _ h
  refine wpAny_call (codeAny_mono ((F _).run X.A X.stack s1 H1 ⟨us, []⟩ (us ++ ds) (vs ++ dvs) Q E hr (env0_baseOf I1) (hb s1 us I1.kIn hl) r2 h) fun r s' hq => ?_)
  cases r with
  | error e => exact hx pins σ H1 s1 e s' I1 hq
  | ok fl =>
    cases fl with
    | ret u => exact I1.after hq
    | next => exact False.elim hq
    | brk => exact False.elim hq
    | cont => exact False.elim hq
end
end LamV

/-! raise C() of an own class with an __init__ of its own -/
namespace L2
open PySem PySem.Spec PyProof.Rows OxK
section
variable {X : Cx}
theorem pmk_oex0 {CX : CXT} {x : Str} {C fI : Addr} {k : Nat} {fd : FuncData} {ps : List Str} {sp : Sp} {p pos : Pos} (T : OexC X.K C) (iC : PySem.W.findIn X.K (.ref C) "__init__" = some (some (.ref fI))) (tI : PySem.W.typeIn X.K (.ref fI) = some (.type "function"))
    (F1 : FnOk X.prog X.w X.K X.mg X.base CX k fI fd ps sp) (hr : Room (k + 1) X.A) (hb : Binds X.K fd ps []) (hx : Passes CX X (fun _ _ _ => False)) (hg : Gl X x) (hm : X.mg x = some (.ref C))
    (hdb : (x == ("__debug__" : Str)) = false := by decide) :
    PMk X (.Call (.Name x p) [] [] pos) (tMkO C sp [] tNil) := by
  intro pins s σ H Q I h
  obtain ⟨hz, q1⟩ := h
  obtain ⟨nm, q, N, bs, bm, sn, sub, ab, col, dd, k0, k1, k2, k3, k5, hC, hbm⟩ := T.cls
  refine wpAny_Call_Name_kw (ld_glob I hg hm ?_ hdb)
  refine PySem.W.callWith_K0 I.kIn T.kC ?_
  show wpAny _ _ (call (.ref C) []) _ _ _
  obtain ⟨hp, g, dr, tk, os⟩ := s
  have hsz : hp.objs.size ≤ hp.objs.size + 1 := Nat.le_succ _
  have hn : H (hp.objs.size + 1) = none := I.hok.fresh hsz
  have hq := q1 (hp.objs.size + 1) hn
  have kk : ∀ b o, hp.get? b = some o → ((hp.push (PySem.W.kdv_tup [])).push (PySem.HandSPX.excO C hp.objs.size)).get? b = some o := fun b o e => Heap.get?_push_of_some _ (Heap.get?_push_of_some _ e)
  have hget : ((hp.push (PySem.W.kdv_tup [])).push (PySem.HandSPX.excO C hp.objs.size)).get? (hp.objs.size + 1) = some (PySem.HandSPX.excO C hp.objs.size) := by heap_get
  have I2 : Inv X pins σ (upd H (hp.objs.size + 1) (exo (hp.objs.size + 1) C none)) ⟨(hp.push (PySem.W.kdv_tup [])).push (PySem.HandSPX.excO C hp.objs.size), g, dr, tk, os⟩ :=
    I.laid (t' := tk) (a := hp.objs.size + 1) (o := exo (hp.objs.size + 1) C none) (h' := (hp.push (PySem.W.kdv_tup [])).push (PySem.HandSPX.excO C hp.objs.size)) kk hsz (exo_ok hget)
  have r2 : Vals [V.ref (hp.objs.size + 1)] [Value.ref (hp.objs.size + 1)] := .cons rfl .nil
  have hl : ([Value.ref (hp.objs.size + 1)] ++ []).length = ps.length := F1.len _ _ _ _ hq
  refine wpAny_call (PySem.HandSPX.call_own F.excBase_ValueError (fun Y => PySem.HandSPX.refsVE_contains Y bm hbm) (I.kIn _ _ hC) (PySem.W.looks_findIn I.kIn iC) (fun self => PySem.W.bind_fn I.kIn self tI) (by decide)
    (codeAny_mono (F1.run _ X.stack _ _ ⟨[Value.ref (hp.objs.size + 1)], []⟩ ([Value.ref (hp.objs.size + 1)] ++ []) _ _ (fun _ _ _ => False) (hr.make C [] []) (I2.env0.make C [] []) (hb _ [Value.ref (hp.objs.size + 1)] I2.kIn hl) r2 hq) fun r s' hq' => ?_))
  cases r with
  | error er => exact hx pins σ _ _ er s' I2 hq'
  | ok fl =>
    cases fl with
    | ret u =>
      obtain ⟨v, H2, os2, bare2, un2, hok2, rv, ev, d, fs, ea, ed, hd1, q2⟩ := hq'
      subst ev
      obtain ⟨h2, g2, d2, t2, os'⟩ := s'
      exact ⟨rv, mk_end (raises_own T.exC T.tyC) I hsz kk un2 hok2 os2 bare2 ea ed hd1 q2⟩
    | next => exact False.elim hq'
    | brk => exact False.elim hq'
    | cont => exact False.elim hq'
end
/-- a promise without exceptions is one with them -/
theorem FnOk.any {P : Program} {w : World} {K : PySem.W.Frag} {mg : Str → Option Value} {base : Heap} {CX : CXT} {k : Nat} {f : Addr} {fd : FuncData} {ps : List Str} {sp : Sp} (F : FnOk P w K mg base C8.CX0 k f fd ps sp) : FnOk P w K mg base CX k f fd ps sp :=
  ⟨F.len, fun A outer s H args us vs Q E hr he hb hv h => codeAny_mono (F.run A outer s H args us vs Q E hr he hb hv h) fun r s' hq => match r, hq with
    | .error _, hq => False.elim hq
    | .ok (.ret _), hq => hq
    | .ok .next, hq => hq
    | .ok .brk, hq => hq
    | .ok .cont, hq => hq⟩
/-- either promise -/
theorem FnOk.or {P : Program} {w : World} {K : PySem.W.Frag} {mg : Str → Option Value} {base : Heap} {CX : CXT} {k : Nat} {f : Addr} {fd : FuncData} {ps : List Str} {sp sp' : Sp} (F : FnOk P w K mg base CX k f fd ps sp) (F' : FnOk P w K mg base CX k f fd ps sp') :
    FnOk P w K mg base CX k f fd ps (fun vs H Q E => sp vs H Q E ∨ sp' vs H Q E) :=
  ⟨fun vs H Q E h => h.elim (F.len vs H Q E) (F'.len vs H Q E), fun A outer s H args us vs Q E hr he hb hv h => h.elim (F.run A outer s H args us vs Q E hr he hb hv) (F'.run A outer s H args us vs Q E hr he hb hv)⟩
end L2

/-! own exceptions that are raised: their __init__s, the statement -/
namespace K03
open PySem L2 Evl OxK
/-- __init__ of an own exception with one field, within a raise -/
def spX (n : Nat) (C : Addr) (cn pn : Str) : Sp := fun vs H Q _ => ∃ (a : Addr) (v : V) (d : Dt) (H0 : Hp), vs = [.ref a, v] ∧ H0 a = none ∧ H = upd H0 a (exo a C none) ∧ Has H0 n v d ∧
  ∀ (v' : V) (dd : Addr) (H' : Hp), Ex H0 (dl a (dl dd H')) → H0 dd = none → dd ≠ a → H' a = some (exo a C (some dd)) → H' dd = some (exd dd [(pn, v'), ("tag", .str cn)]) → Has (dl a (dl dd (nw H0 H'))) n v' d → Q .non H'
def spX0 (C : Addr) (cn : Str) : Sp := fun vs H Q _ => ∃ (a : Addr) (H0 : Hp), vs = [.ref a] ∧ H0 a = none ∧ H = upd H0 a (exo a C none) ∧
  ∀ (dd : Addr) (H' : Hp), Ex H0 (dl a (dl dd H')) → H0 dd = none → dd ≠ a → H' a = some (exo a C (some dd)) → H' dd = some (exd dd [("tag", .str cn)]) → Q .non H'
/-- data on the way, from this very heap -/
def EvX (te : TE) (σ : L2.St) (H : Hp) (n : Nat) (d : Dt) : Prop := ∀ Q : VK, (∀ v H2, Ex H H2 → Has H2 n v d → Q v H2) → te σ H Q
/-- what the raiser's callers get -/
def Rz (n : Nat) (C : Addr) (cn pn : Str) (d : Dt) (H : Hp) (E : XK) : Prop := ∀ (dd : Addr) (H' : Hp) (v' : V), Ex H H' → H' dd = some (.xd [(pn, v'), ("tag", .str cn)]) → Has (nw H H') n v' d → E (.ref C) (some dd) H'
def Rz0 (C : Addr) (cn : Str) (H : Hp) (E : XK) : Prop := ∀ (dd : Addr) (H' : Hp), Ex H H' → H' dd = some (.xd [("tag", .str cn)]) → E (.ref C) (some dd) H'
theorem Rz.ex {n : Nat} {C : Addr} {cn pn : Str} {d : Dt} {H H1 : Hp} {E : XK} (h : Rz n C cn pn d H E) (e : Ex H H1) : Rz n C cn pn d H1 E := fun dd H' v' e' h1 h2 => h dd H' v' (e.trans e') h1 (h2.ex (nw_mono e))
theorem Rz0.ex {C : Addr} {cn : Str} {H H1 : Hp} {E : XK} (h : Rz0 C cn H E) (e : Ex H H1) : Rz0 C cn H1 E := fun dd H' e' => h dd H' (e.trans e')
section
variable {P : Program} {w : World} {K : PySem.W.Frag} {mg : Str → Option Value} {base : Heap} {f C : Addr} {fd : FuncData}
def t_initN (K : PySem.W.Frag) (n : Nat) (cn pn : Str) : TS := tSeq (tXst K "tag" (tVar 0) (tC (.str cn))) (tXst K pn (tVar 0) (tCall (spCpN n) [] E0 (tCons (tVar 1) tNil)))
theorem pure_initN (n : Nat) (cn pn : Str) (T : ExC K C) (nT : PySem.W.findIn K (.ref C) "tag" = some none) (nP : PySem.W.findIn K (.ref C) pn = some none) {vs : List V} {H : Hp} {Q : VK} {E : XK} (h : spX n C cn pn vs H Q E) :
    t_initN K n cn pn { nx := fun _ H' => Q .non H', rt := Q } (L2.start ["self", pn] vs) H := by
  obtain ⟨a, v, d, H0, rfl, ha, rfl, hv, k⟩ := h
  refine ⟨_, rfl, a, C, rfl, T, nT, .inl ⟨upd_same, fun dd hd nda => ?_⟩⟩
  have nd0 : H0 dd = none := by rw [upd_ne nda] at hd; exact hd
  have e1 : Ex H0 (upd (upd (upd H0 a (exo a C none)) dd (exd dd [("tag", .str cn)])) a (exo a C (some dd))) := fun b o z => by
    have nb : b ≠ a := ne_of_none z ha
    rw [upd_ne nb, upd_ne (ne_of_none z nd0), upd_ne nb]
    exact z
  have ed1 : (upd (upd (upd H0 a (exo a C none)) dd (exd dd [("tag", .str cn)])) a (exo a C (some dd))) dd = some (exd dd [("tag", .str cn)]) := by rw [upd_ne nda, upd_same]
  refine ⟨_, rfl, v, d, rfl, hv.ex e1, fun v' H1 x1 hv' => ?_⟩
  have x0 := e1.trans x1
  have hd1 := x1 dd _ ed1
  refine ⟨_, rfl, a, C, rfl, T, nP, .inr ⟨dd, [("tag", .str cn)], x1 _ _ upd_same, hd1, (by show 1 ≤ 900; decide), ?_⟩⟩
  have st : ∀ b o, b ≠ a → b ≠ dd → H1 b = some o → dl a (dl dd (upd H1 dd (exd dd [(pn, v'), ("tag", .str cn)]))) b = some o := fun b o n1 n2 z => dl_of n1 (dl_of n2 (by rw [upd_ne n2]; exact z))
  have st2 : ∀ b o, b ≠ a → b ≠ dd → H0 b = none → H1 b = some o → dl a (dl dd (nw H0 (upd H1 dd (exd dd [(pn, v'), ("tag", .str cn)])))) b = some o := fun b o n1 n2 n3 z => dl_of n1 (dl_of n2 (nw_of n3 (by rw [upd_ne n2]; exact z)))
  refine k v' dd _ (fun b o z => st b o (ne_of_none z ha) (ne_of_none z nd0) (x0 _ _ z)) nd0 nda (by rw [upd_ne nda.symm]; exact x1 _ _ upd_same) upd_same (hv'.ex fun b o z => ?_)
  obtain ⟨z1, z2⟩ := nw_some z
  have nba : b ≠ a := fun q => by rw [q, upd_same] at z1; cases z1
  have nbd : b ≠ dd := fun q => by rw [q, ed1] at z1; cases z1
  exact st2 b o nba nbd (fresh_back e1 z1) z2
theorem pure_initN0 (cn : Str) (T : ExC K C) (nT : PySem.W.findIn K (.ref C) "tag" = some none) {vs : List V} {H : Hp} {Q : VK} {E : XK} (h : spX0 C cn vs H Q E) :
    tXst K "tag" (tVar 0) (tC (.str cn)) { nx := fun _ H' => Q .non H', rt := Q } (L2.start ["self"] vs) H := by
  obtain ⟨a, H0, rfl, ha, rfl, k⟩ := h
  refine ⟨_, rfl, a, C, rfl, T, nT, .inl ⟨upd_same, fun d hd nda => ?_⟩⟩
  have nd0 : H0 d = none := by rw [upd_ne nda] at hd; exact hd
  refine k d _ (fun b o z => ?_) nd0 nda upd_same (by rw [upd_ne nda, upd_same])
  have nb : b ≠ a := ne_of_none z ha
  have nd : b ≠ d := ne_of_none z nd0
  exact dl_of nb (dl_of nd (by rw [upd_ne nb, upd_ne nd, upd_ne nb]; exact z))
end
/-! ### the statement -/
/-- what the top says of an own exception that is raised -/
structure RaC (K : PySem.W.Frag) (mg : Str → Option Value) (x : Str) (C fI : Addr) : Prop where
  oex : OexC K C
  exc : ExC K C
  tag : TagC K C
  ini : PySem.W.findIn K (.ref C) "__init__" = some (some (.ref fI))
  ty : PySem.W.typeIn K (.ref fI) = some (.type "function")
  mg : mg x = some (.ref C)
section
variable {X : Cx}
theorem ex_made {H0 H' : Hp} {a dd : Addr} {fs : List (Str × V)} (e : Ex H0 (dl a (dl dd H'))) : Ex H0 (upd (del H' a) dd (.xd fs)) := fun b o z => by
  obtain ⟨n1, z1⟩ := dl_some (e b o z)
  obtain ⟨n2, z2⟩ := dl_some z1
  rw [upd_ne n2, del_ne n1]
  exact z2
/-- raise C(e) -/
def tRz (n : Nat) (C : Addr) (cn pn : Str) (W : WX) (te : TE) : TS := fun _ σ H => tMkO C (spX n C cn pn) [] (tCons te tNil) σ H fun cls d H' => W cls d σ H'
def tRz0 (C : Addr) (cn : Str) (W : WX) : TS := fun _ σ H => tMkO C (spX0 C cn) [] tNil σ H fun cls d H' => W cls d σ H'
theorem ps_rz {x cn pn : Str} {C fI : Addr} {k n : Nat} {fd : FuncData} {W : WX} {te : TE} {e : Expr} {p pos pos' : Pos} (T : RaC X.K X.mg x C fI) (F1 : FnOk X.prog X.w X.K X.mg X.base CX0 k fI fd ["self", pn] (spX n C cn pn)) (hr : Room (k + 1) X.A) (hb : Binds X.K fd ["self", pn] [])
    (hc : X.calm = true) (tk : Takes X W) (hg : Gl X x) (he : PE X e te) (hdb : (x == ("__debug__" : Str)) = false := by decide) (hs : starEach [e] X.env = (false, eval e X.env) :: starEach [] X.env := by rfl) :
    PS X (.Raise (some (.Call (.Name x p) [e] [] pos)) none pos') (tRz n C cn pn W te) :=
  ps_raise hc tk (pmk_oex (p := p) (pos := pos) (dvs := []) T.oex T.ini T.ty F1 hr hb .nil C8.pass0 hg T.mg (pa_cons he pa_nil hs) hdb hs)
theorem ps_rz0 {x cn : Str} {C fI : Addr} {k : Nat} {fd : FuncData} {W : WX} {p pos pos' : Pos} (T : RaC X.K X.mg x C fI) (F1 : FnOk X.prog X.w X.K X.mg X.base CX0 k fI fd ["self"] (spX0 C cn)) (hr : Room (k + 1) X.A) (hb : Binds X.K fd ["self"] [])
    (hc : X.calm = true) (tk : Takes X W) (hg : Gl X x) (hdb : (x == ("__debug__" : Str)) = false := by decide) :
    PS X (.Raise (some (.Call (.Name x p) [] [] pos)) none pos') (tRz0 C cn W) :=
  ps_raise hc tk (pmk_oex0 (p := p) (pos := pos) T.oex T.ini T.ty F1 hr hb C8.pass0 hg T.mg hdb)
theorem rz_eh {n : Nat} {C : Addr} {cn pn : Str} {W : WX} {te : TE} {D : Ends} {σ : L2.St} {H : Hp} {d : Dt} (h : EvX te σ H n d)
    (q : ∀ (dd : Addr) (H' : Hp) (v' : V), Ex H H' → H' dd = some (.xd [(pn, v'), ("tag", .str cn)]) → Has (nw H H') n v' d → W (.ref C) (some dd) σ H') : tRz n C cn pn W te D σ H := by
  refine h _ fun v H1 e1 hv => ⟨(show 1 ≤ 1000 by decide), fun a na => ⟨a, v, d, H1, rfl, na, rfl, hv, fun v' dd H' e' nd nda h1 h2 hv' => ⟨rfl, dd, _, h1, h2, nd, ?_⟩⟩⟩
  refine q dd _ v' (e1.trans (ex_made e')) upd_same (hv'.ex fun b o z => ?_)
  obtain ⟨n1, z1⟩ := dl_some z
  obtain ⟨n2, z2⟩ := dl_some z1
  obtain ⟨z3, z4⟩ := nw_some z2
  exact nw_of (fresh_back e1 z3) (by rw [upd_ne n2, del_ne n1]; exact z4)
theorem rz_0 {C : Addr} {cn : Str} {W : WX} {D : Ends} {σ : L2.St} {H : Hp}
    (q : ∀ (dd : Addr) (H' : Hp), Ex H H' → H' dd = some (.xd [("tag", .str cn)]) → W (.ref C) (some dd) σ H') : tRz0 C cn W D σ H :=
  ⟨by decide, fun a na => ⟨a, H, rfl, na, rfl, fun dd H' e' nd nda h1 h2 => ⟨rfl, dd, _, h1, h2, nd, q dd _ (ex_made e') upd_same⟩⟩⟩
end
end K03

-- base: law_k04_whole_standard_forms
/-! data on the way, over growing heaps -/
namespace K03
open PySem L2 Evl OxK
section
variable {K : PySem.W.Frag} {te ta tb tl : TE} {tr : TA} {σ : L2.St} {H : Hp} {v : V} {d d2 : Dt} {ds : List Dt} {n : Nat} {x : Str} {rows : List (List Nat)} {m i : Nat} {p : Addr} {xs : List V}
def EvH (te : TE) (σ : L2.St) (H : Hp) (n : Nat) (d : Dt) : Prop := ∀ H1, Ex H H1 → ∀ Q : VK, (∀ v H2, Ex H1 H2 → Has H2 n v d → Q v H2) → te σ H1 Q
def EvHA (tr : TA) (σ : L2.St) (H : Hp) (n : Nat) (ds : List Dt) : Prop := ∀ H1, Ex H H1 → ∀ Q : List V → Hp → Prop, (∀ vs H2, Ex H1 H2 → HasL H2 n vs ds → Q vs H2) → tr σ H1 Q
theorem hasl_ex {H H' : Hp} (e : Ex H H') {n : Nat} : ∀ {vs : List V} {ds : List Dt}, HasL H n vs ds → HasL H' n vs ds
  | [], [], _ => True.intro
  | _ :: _, _ :: _, h => ⟨h.1.ex e, hasl_ex e h.2⟩
  | [], _ :: _, h => h.elim
  | _ :: _, [], h => h.elim
theorem hasl_app {H : Hp} {n : Nat} : ∀ {vs : List V} {ds : List Dt} {us : List V} {cs : List Dt}, HasL H n vs ds → HasL H n us cs → HasL H n (vs ++ us) (ds ++ cs)
  | [], [], _, _, _, h => h
  | _ :: _, _ :: _, _, _, h, h' => ⟨h.1, hasl_app h.2 h'⟩
  | [], _ :: _, _, _, h, _ => h.elim
  | _ :: _, [], _, _, h, _ => h.elim
theorem eh_v (h : Ev te σ H v) (k : Has H n v d) : EvH te σ H n d := fun H1 e1 Q q => h H1 e1 _ fun H2 e2 => q v H2 e2 (k.ex (e1.trans e2))
theorem eh_f (h : Ev te σ H v) (f : Flat v) : EvH te σ H n (.f v) := eh_v h (has_flat f n)
theorem eh_up (h : EvH te σ H n d) : EvH te σ H (n + 1) d := fun H1 e1 Q q => h H1 e1 _ fun v H2 e2 k => q v H2 e2 k.up
theorem eha_nil : EvHA tNil σ H n [] := fun H1 _ Q q => q [] H1 (Ex.refl _) True.intro
theorem eha_cons (h : EvH te σ H n d) (hr : EvHA tr σ H n ds) : EvHA (tCons te tr) σ H n (d :: ds) := fun H1 e1 Q q => h H1 e1 _ fun v H2 e2 h2 => hr H2 (e1.trans e2) _ fun vs H3 e3 h3 => q (v :: vs) H3 (e2.trans e3) ⟨h2.ex e3, h3⟩
theorem eh_lst (h : EvHA tr σ H n ds) (few : ds.length ≤ 1000 := by simp) : EvH (tLst tr) σ H (n + 1) (.l ds) := fun H1 e1 Q q => h H1 e1 _ fun vs H2 e2 hv => by
  have l := (hasl_at hv).1
  exact ⟨sz_of (by omega), fun p hp => q _ _ (e2.trans (Ex.new hp)) (has_of (hasl_ex (Ex.new hp) hv) upd_same (by omega))⟩
theorem eh_tup (h : EvHA tr σ H n ds) (few : ds.length ≤ 1000 := by simp) : EvH (tTup tr) σ H (n + 1) (.t ds) := fun H1 e1 Q q => h H1 e1 _ fun vs H2 e2 hv => by
  have l := (hasl_at hv).1
  refine ⟨sz_of (by omega), fun p hp => q _ _ (e2.trans (Ex.new hp)) (.inr ⟨p, vs, ds, rfl, .inr ⟨upd_same, rfl⟩, l, by omega, (hasl_at (hasl_ex (Ex.new hp) hv)).2⟩)⟩
theorem eh_rows (h : EvRows .lst te σ H rows) (few : rows.length ≤ 1000) (wide : ∀ row ∈ rows, row.length ≤ 1000) : EvH te σ H 2 (rowsD rows) := fun H1 e1 Q q => h H1 e1 _ fun D bs H2 nr =>
  q _ H2 nr.ex (has_rows nr.at_ nr.len few wide fun j b row h1 h2 => (nr.it j b row h1 h2).2.2)
/-- _law_same of two data -/
theorem ev_same {b : Bool} (ha : EvH ta σ H n d) (hb : EvH tb σ H n d2) (h : b = true ↔ d = d2) : Ev (tCall (spSame n) [] E0 (tCons ta (tCons tb tNil))) σ H (.bl b) := fun H1 e1 Q q =>
  ha H1 e1 _ fun v H2 e2 hv => hb H2 (e1.trans e2) _ fun w H3 e3 hw => ⟨v, w, d, d2, rfl, hv.ex e3, hw, fun b2 H4 hb2 e4 => by
    have z : b2 = b := by rw [Bool.eq_iff_iff]; exact hb2.trans h.symm
    subst z
    exact q H4 ((e2.trans e3).trans e4)⟩
/-- what is made anew each time -/
theorem eh_rep {k : Int} {ds : List Dt} (ha : EvHA tr σ H n ds) (hk0 : 0 ≤ k) (hk : k ≤ 10) (few : ds.length ≤ 100) (hb : ∀ H1, Ex H H1 → Ev tb σ H1 (.int k)) : EvH (tOp rRep (tLst tr) tb) σ H (n + 1) (.l (List.replicate k.toNat ds).flatten) := fun H1 e1 Q q =>
  ha H1 e1 _ fun vs H2 e2 hv => by
    have l := (hasl_at hv).1
    refine ⟨sz_of (by omega), fun p hp => hb (upd H2 p (.lst vs)) ((e1.trans e2).trans (Ex.new hp)) _ (Ex.refl _) _ fun H3 e3 => ?_⟩
    have lt : vs.length * k.toNat ≤ 100 * 10 := Nat.mul_le_mul (by omega) (by omega)
    refine ⟨p, k, vs, rfl, rfl, e3 _ _ upd_same, by omega, by omega, Nat.le_trans lt (by decide), fun p2 hp2 => ?_⟩
    refine q _ _ ((e2.trans (Ex.new hp)).trans (e3.trans (Ex.new hp2))) ?_
    have h1 := hasl_ex (((Ex.new hp).trans e3).trans (Ex.new hp2) : Ex H2 (upd H3 p2 (.lst (List.replicate k.toNat vs).flatten))) hv
    have h2 : ∀ (a : Nat), HasL (upd H3 p2 (.lst (List.replicate k.toNat vs).flatten)) n (List.replicate a vs).flatten (List.replicate a ds).flatten := by
      intro a
      induction a with
      | zero => exact True.intro
      | succ a ih =>
        rw [List.replicate_succ, List.replicate_succ, List.flatten_cons, List.flatten_cons]
        exact hasl_app h1 ih
    have l2 : (List.replicate k.toNat vs).flatten.length = k.toNat * vs.length := by simp
    rw [Nat.mul_comm] at lt
    exact has_of (h2 _) upd_same (by omega)
end
end K03

-- base: law_k02_machines_refused
/-! _law_try, _law_tries, told of lambdas that are kept -/
namespace K03
open PySem L2 L2H LamX LamV Evl OxK
/-- a lambda's reading -/
abbrev Tl := XK → Hp → VK → Prop
structure Ask where
  f : Addr
  F : LF
  t : Tl
/-- what _law_try wants of a lambda -/
abbrev AskR (P : Program) (w : World) (K : PySem.W.Frag) (mg : Str → Option Value) (base : Heap) (k : Nat) (x : Ask) : Prop := LamRunB P w K mg base k x.f x.F x.t
def TAsk (K : PySem.W.Frag) (C1 C2 C3 : Addr) (x : Ask) : Hp → VK → Prop := fun H Q => LamAt H x.f x.F ∧ TTry K C1 C2 C3 (fun E H' Q' => LamAt H' x.f x.F ∧ x.t E H' Q') H Q
def spTry (P : Program) (w : World) (K : PySem.W.Frag) (mg : Str → Option Value) (C1 C2 C3 : Addr) (k : Nat) (base : Heap) : Sp := fun vs H Q _ => ∃ x : Ask, vs = [.ref x.f] ∧ AskR P w K mg base k x ∧ TAsk K C1 C2 C3 x H Q
/-- one ask after the other; D: the list of the answers -/
def TChain (K : PySem.W.Frag) (C1 C2 C3 : Addr) (D a : Addr) (all : List V) (Q : VK) : List Ask → Hp → Prop
  | [], H => SqL K H a all ∧ Q (.ref D) H
  | x :: r, H => SqL K H a all ∧ TAsk K C1 C2 C3 x H fun v H' => ∃ acc, H' D = some (.lst acc) ∧ acc.length < sizeLine ∧ TChain K C1 C2 C3 D a all Q r (upd H' D (.lst (acc ++ [v])))
def spTries (P : Program) (w : World) (K : PySem.W.Frag) (mg : Str → Option Value) (C1 C2 C3 : Addr) (k : Nat) (base : Heap) : Sp := fun vs H Q _ => ∃ (a : Addr) (asks : List Ask), vs = [.ref a] ∧ SqL K H a (asks.map fun x => V.ref x.f) ∧ (∀ x ∈ asks, AskR P w K mg base k x) ∧
  ∀ D, H D = none → TChain K C1 C2 C3 D a (asks.map fun x => V.ref x.f) Q asks (upd H D (.lst []))
section
variable {P : Program} {w : World} {K : PySem.W.Frag} {mg : Str → Option Value} {base : Heap} {f fF C1 C2 C3 : Addr} {fd fdF : FuncData} {k : Nat}
theorem ok_try (F : FnP K "_law_try" sTry f fd) (FF : FnP K "_law_field" sFeld fF fdF) (gF : mg "_law_field" = some (.ref fF)) (kF : PySem.W.keepIn K (.ref fF) = true) (bF : Binds K fdF ["_law_e"] [])
    (g1 : mg "TeamError" = some (.ref C1)) (g2 : mg "Missing" = some (.ref C2)) (g3 : mg "NothingLeft" = some (.ref C3)) : FnOk P w K mg base CX0 (k + 4) f fd ["_law_ask"] (spTry P w K mg C1 C2 C3 k base) := by
  refine F.ok scTry (fun vs H Q E h => ?_) (fun cdv A outer s H vs Q E hr h => ?_)
  · obtain ⟨x, rfl, _⟩ := h
    rfl
  · obtain ⟨x, rfl, R, hat, ht⟩ := h
    have hrA : Room 3 A := ⟨hr.hd, by have := hr.dp; show A.depth + 3 * 3 + 5 < _; have q : A.depth + 1 + 3 * (k + 3) + 5 < recursionLimit := this; omega, by have := hr.un; have q : A.units + 3 + 16 * (k + 3) + 200 < cLine := this; omega⟩
    have G := try_gives (X := { cxOf CX0 P w K mg base ["_law_ask", "_law_e"] "_law_try" (defScope sTry) f cdv A outer s H E with A := A, stack := outer }) (k := k) (g := f) (cdg := cdv) (q := x.F.qual) FF gF kF bF g1 g2 g3 hrA
    obtain ⟨t, ht, hq⟩ := G x.f x.F.c s H Q (fun E H' Q' => LamAt H' x.f x.F ∧ x.t E H' Q') (fun W pn xe E2 p1 p2 tk hW => by
      have h := pe_actB (X := (cxOf CX0 P w K mg base ["_law_ask", "_law_e"] "_law_try" (defScope sTry) f cdv A outer s H E0).tr pn xe) (i := 0) (p1 := p1) (p2 := p2) R (hr.mono (by omega)) (passes_call tk hW) rfl (.inl rfl) (by decide) (by decide)
      refine ⟨fun pins s' σ H' Q' I h' => h.run pins s' σ H' Q' I ⟨h'.1, h'.2.2⟩⟩) hat.2.1 ht
    exact ⟨t, PSs.nox ht, hq⟩
theorem scTries : FnScope ["_law_asks", "_law_ask"] ["_law_asks"] (defScope sTries) := ⟨rfl, rfl, rfl, by decide +kernel, rfl, by decide +kernel, by decide +kernel⟩
theorem chain_sq {D a : Addr} {all : List V} {Q : VK} {H : Hp} : ∀ {l : List Ask}, TChain K C1 C2 C3 D a all Q l H → SqL K H a all
  | [], h => h.1
  | _ :: _, h => h.1
theorem ok_tries {fT : Addr} {fdT : FuncData} (F : FnP K "_law_tries" sTries f fd) (FT : FnP K "_law_try" sTry fT fdT) (gT : mg "_law_try" = some (.ref fT)) (FF : FnP K "_law_field" sFeld fF fdF) (gF : mg "_law_field" = some (.ref fF)) (kF : PySem.W.keepIn K (.ref fF) = true) (bF : Binds K fdF ["_law_e"] [])
    (g1 : mg "TeamError" = some (.ref C1)) (g2 : mg "Missing" = some (.ref C2)) (g3 : mg "NothingLeft" = some (.ref C3)) : FnOk P w K mg base CX0 (k + 5) f fd ["_law_asks"] (spTries P w K mg C1 C2 C3 k base) := by
  have GT : FnOk P w K mg base CX0 (k + 4) fT fdT ["_law_ask"] (spTry P w K mg C1 C2 C3 k base) := ok_try FT FF gF kF bF g1 g2 g3
  have bT : Binds K fdT ["_law_ask"] [] := FT.bindsN fun _ _ _ _ _ _ us hl => match us, hl with | [_], _ => rfl
  refine F.ok scTries (fun vs H Q E h => ?_) (fun cdv A outer s H vs Q E hr h => ?_)
  · obtain ⟨a, asks, rfl, _⟩ := h
    rfl
  · obtain ⟨a, asks, rfl, ha, R, ht⟩ := h
    refine ⟨_, PSs.nox (pss_one (ps_ret (pe_lc (own := [("_law_ask", 1)]) (g := gName 1) (tt := tYes) (by rfl) scTries.nd (pi_list (pv 0)) (blkOk_by (own := [("_law_ask", 1)]) (N := ["_law_asks", "_law_ask"]) (sc := defScope sTries) (by decide +kernel))
      (fun _ _ _ _ _ => pg_name (i := 1) scTries.nd rfl (Or.inl rfl)) (fun _ _ _ _ _ => pts_nil)
      (fun _ _ _ _ _ => pe_call GT hr rfl gT FT.kp bT .nil pass0 (pa_cons (pv 1) pa_nil))))), ?_⟩
    refine ⟨_, rfl, a, rfl, ⟨_, ha⟩, fun D hD => lc_list (K := K) (a := a) (xs := asks.map fun x => V.ref x.f) (fun i H' => TChain K C1 C2 C3 D a (asks.map fun x => V.ref x.f) Q (asks.drop i) H') (ht D hD) ?_ ?_ ?_⟩
    · exact fun i H' hi p => chain_sq p
    · rintro i x H' hx p
      have hi : i < asks.length := by
        have := (List.getElem?_eq_some_iff.mp hx).1
        simpa using this
      rw [List.drop_eq_getElem_cons hi] at p
      have ex : x = V.ref asks[i].f := by
        rw [List.getElem?_map, List.getElem?_eq_getElem hi] at hx
        exact (Option.some.inj hx).symm
      subst ex
      exact ⟨rfl, tt_yes ⟨_, rfl, asks[i], rfl, R _ (List.getElem_mem hi), p.2⟩⟩
    · intro H' p
      rw [List.length_map, List.drop_length] at p
      exact p.2
end
/-! ### answers that grow the heap alone -/
section
variable {P : Program} {w : World} {K : PySem.W.Frag} {mg : Str → Option Value} {C1 C2 C3 C : Addr} {k n : Nat} {H H0 : Hp} {d : Dt} {x : Ask} {cn pn tg : Str}
/-- the answer is the pair d -/
def AskEv (K : PySem.W.Frag) (C1 C2 C3 : Addr) (H0 : Hp) (n : Nat) (x : Ask) (d : Dt) : Prop := ∀ H' (Q' : VK), Ex H0 H' → (∀ v H'', Ex H' H'' → Has (nw H' H'') n v d → Q' v H'') → TAsk K C1 C2 C3 x H' Q'
theorem chain_ev {D a : Addr} {all : List V} {Q : VK} (hD0 : H0 D = none) (hsq : ∀ H', Ex H0 H' → SqL K H' a all) : ∀ (l : List Ask) (ds gs : List Dt) (acc : List V) (H : Hp), l.length = ds.length → gs.length + l.length ≤ 1000 → (∀ (i : Nat) (x : Ask) (d : Dt), l[i]? = some x → ds[i]? = some d → AskEv K C1 C2 C3 H0 n x d) →
    Ex H0 H → H D = some (.lst acc) → HasL (dl D (nw H0 H)) n acc gs → (∀ H' acc', Ex H0 H' → H' D = some (.lst acc') → HasL (dl D (nw H0 H')) n acc' (gs ++ ds) → Q (.ref D) H') → TChain K C1 C2 C3 D a all Q l H
  | [], [], gs, acc, H, _, _, _, e, hD, hg, q => ⟨hsq _ e, q H acc e hD (by rw [List.append_nil]; exact hg)⟩
  | x :: l, d :: ds, gs, acc, H, hl, few, ha, e, hD, hg, q => by
    refine ⟨hsq _ e, ha 0 x d rfl rfl H _ e fun v H' e' hv => ⟨acc, e' _ _ hD, small1000 (by have := (hasl_at hg).1; simp at few; omega), ?_⟩⟩
    have up : Ex (dl D (nw H0 H)) (dl D (nw H0 (upd H' D (.lst (acc ++ [v]))))) := fun b o z => by
      obtain ⟨z1, z2⟩ := dl_some z
      obtain ⟨z3, z4⟩ := nw_some z2
      exact dl_of z1 (nw_of z3 (by rw [upd_ne z1]; exact e' _ _ z4))
    have new : Ex (nw H H') (dl D (nw H0 (upd H' D (.lst (acc ++ [v]))))) := fun b o z => by
      obtain ⟨z1, z2⟩ := nw_some z
      have nb : b ≠ D := fun q => by rw [q, hD] at z1; cases z1
      refine dl_of nb (nw_of ?_ (by rw [upd_ne nb]; exact z2))
      cases q : H0 b with
      | none => rfl
      | some u => rw [e _ _ q] at z1; cases z1
    refine chain_ev hD0 hsq l ds (gs ++ [d]) (acc ++ [v]) _ (by simpa using hl) (by simp at few ⊢; omega) (fun i x d h1 h2 => ha (i + 1) x d (by simpa using h1) (by simpa using h2)) (Ex.mut (e.trans e') hD0) upd_same (hasl_app (hasl_ex up hg) ⟨hv.ex new, True.intro⟩) fun H2 acc2 e2 h2 h3 => q H2 acc2 e2 h2 (by simpa using h3)
  | [], _ :: _, _, _, _, h, _, _, _, _, _, _ => nomatch h
  | _ :: _, [], _, _, _, h, _, _, _, _, _, _ => nomatch h
/-- the asks raise, or tell -/
theorem ask_val (hat : LamAt H0 x.f x.F) (h : ∀ H' (Q : VK) (E : XK), Ex H0 H' → (∀ v H'', Ex H' H'' → Has (nw H' H'') n v d → Q v H'') → x.t E H' Q) : AskEv K C1 C2 C3 H0 (n + 1) x (.t [.f (.str "value"), d]) := fun H' Q' e q =>
  ⟨hat.ex e, hat.ex e, h H' _ _ e fun v H'' e' hv => ⟨(show 2 ≤ sizeLine by decide), fun p hp => q _ _ (e'.trans (Ex.new hp)) (.inr ⟨p, _, _, rfl, .inr ⟨nw_of (fresh_back e' hp) upd_same, rfl⟩, rfl, (show 2 ≤ 1000 by decide), fun i x y h1 h2 => by
    match i, h1, h2 with
    | 0, h1, h2 => cases h1; cases h2; exact has_s n
    | 1, h1, h2 => cases h1; cases h2; exact hv.ex (nw_up (Ex.new hp))⟩)⟩⟩
/-- what the top says of an error that _law_try catches by its first clause -/
structure ErrC (K : PySem.W.Frag) (C1 C : Addr) : Prop where
  tag : TagC K C
  is1 : PySem.W.exmOne K (.ref C) (.ref C1) = some true
theorem ask_rz (hat : LamAt H0 x.f x.F) (T : ErrC K C1 C) (hf : ∀ v' : V, fldV cn [(pn, v'), ("tag", .str cn)] = some v') (hp : (pn == ("tag" : Str)) = false) (h : ∀ H' (Q : VK) (E : XK), Ex H0 H' → Rz n C cn pn d H' E → x.t E H' Q) : AskEv K C1 C2 C3 H0 (n + 1) x (.t [.f (.str cn), d]) := fun H' Q' e q =>
  ⟨hat.ex e, hat.ex e, h H' _ _ e fun dd H2 v' e2 hd hv => ⟨C, dd, _, cn, v', rfl, T.tag, rfl, hd, (by
      rw [List.lookup_cons]
      have q : (("tag" : Str) == pn) = false := by
        rw [Bool.eq_false_iff] at hp ⊢
        intro z
        exact hp (by rw [beq_iff_eq] at z ⊢; exact z.symm)
      rw [q]
      rfl), .inl ⟨T.is1, hf v'⟩, fun p H3 hp e3 h3 => q _ _ (e2.trans e3) (.inr ⟨p, _, _, rfl, .inr ⟨nw_of (fresh_back e2 hp) h3, rfl⟩, rfl, (show 2 ≤ 1000 by decide), fun i x y h1 h2 => by
    match i, h1, h2 with
    | 0, h1, h2 => cases h1; cases h2; exact has_s n
    | 1, h1, h2 => cases h1; cases h2; exact hv.ex (nw_up e3)⟩)⟩⟩
theorem ask_rz0 (hat : LamAt H0 x.f x.F) (T : ErrC K C1 C) (hf : fldV cn [("tag", .str cn)] = some .non) (h : ∀ H' (Q : VK) (E : XK), Ex H0 H' → Rz0 C cn H' E → x.t E H' Q) : AskEv K C1 C2 C3 H0 (n + 1) x (.t [.f (.str cn), .f .non]) := fun H' Q' e q =>
  ⟨hat.ex e, hat.ex e, h H' _ _ e fun dd H2 e2 hd => ⟨C, dd, _, cn, .non, rfl, T.tag, rfl, hd, rfl, .inl ⟨T.is1, hf⟩, fun p H3 hp e3 h3 => q _ _ (e2.trans e3) (.inr ⟨p, _, _, rfl, .inr ⟨nw_of (fresh_back e2 hp) h3, rfl⟩, rfl, (show 2 ≤ 1000 by decide), fun i x y h1 h2 => by
    match i, h1, h2 with
    | 0, h1, h2 => cases h1; cases h2; exact has_s n
    | 1, h1, h2 => cases h1; cases h2; exact has_flat (v := .non) True.intro n⟩)⟩⟩
end
end K03

/-! the hook with the law's table of code objects; errors by one Bool -/
namespace K03
open PySem L2 L2H Evl OxK
theorem baZ {a b : Bool} (h : (a && b) = true) : a = true ∧ b = true := Bool.and_eq_true_iff.mp h
theorem tail_refs : ∀ l : List Value, PySem.W.excTail PySem.HandSPX.veTail l = true → PySem.HandSPX.refsVE l = true
  | .ref _ :: r, h => by
    rw [PySem.HandSPX.refsVE]
    exact tail_refs r (by rw [PySem.W.excTail] at h; exact h)
  | [], h => h
  | .none :: _, h => h
  | .bool _ :: _, h => h
  | .int _ _ :: _, h => h
  | .float _ _ :: _, h => h
  | .str _ _ :: _, h => h
  | .type _ :: _, h => h
  | .builtin _ :: _, h => h
/-- what is asked of an own error below ValueError -/
theorem oex_cls {K : PySem.W.Frag} {C : Addr} (q : PySem.W.excInitIn K C PySem.HandSPX.veTail "ValueError.__new__" = true) (hd : PySem.W.hasDictIn K C = true) :
    ∃ nm q N bs bm sn sub ab col dd k0 k1 k2 k3 k5, K.lookup C = some (excClassObj nm q C N bs bm true sn sub ab col dd k0 k1 k2 k3 k5 "ValueError.__new__") ∧ PySem.HandSPX.refsVE bm = true := by
  unfold PySem.W.excInitIn at q
  split at q
  · rename_i dd cd sl ho
    split at q
    · rename_i C' bm k0 k1 k2 k3 n k5 hm hs
      simp only [Bool.and_eq_true, beq_iff_eq, Bool.not_eq_true'] at q
      obtain ⟨⟨⟨rfl, rfl⟩, hdel⟩, ht⟩ := q
      have hdd : cd.hasDict = true := by
        have z : (PySem.W.clsIn K C').any (·.hasDict) = true := hd
        unfold PySem.W.clsIn at z
        rw [ho] at z
        exact z
      obtain ⟨nm, bs, mro, ns, qn, hd', sn, sub, ab, col, del⟩ := cd
      dsimp only at hm hdel hdd
      subst hm hdel hdd
      have hsl : sl = #[k0, k1, k2, k3, some (.builtin "ValueError.__new__"), k5] := by
        obtain ⟨l⟩ := sl
        simp only at hs
        rw [hs]
      subst hsl
      exact ⟨nm, qn, ns, bs, bm, sn, sub, ab, col, dd, k0, k1, k2, k3, k5, ho, tail_refs _ ht⟩
    · cases q
  · cases q
theorem raB_ok {K : PySem.W.Frag} {mg : Str → Option Value} {x : Str} {C : Addr} (h : raB K C = true) (hm : mg x = some (.ref C)) : RaC K mg x C (He.ma K C "__init__") := by
  unfold raB at h
  obtain ⟨h1, h⟩ := baZ h
  obtain ⟨h2, h⟩ := baZ h
  obtain ⟨h3, h⟩ := baZ h
  obtain ⟨h4, h⟩ := baZ h
  obtain ⟨h5, h⟩ := baZ h
  obtain ⟨h6, h⟩ := baZ h
  obtain ⟨h7, h⟩ := baZ h
  obtain ⟨h8, h⟩ := baZ h
  obtain ⟨h9, h⟩ := baZ h
  obtain ⟨h10, h⟩ := baZ h
  obtain ⟨h11, h12⟩ := baZ h
  exact ⟨⟨oex_cls h1 h3, of_decide_eq_true h4, of_decide_eq_true h7, of_decide_eq_true h8, h9⟩,
    ⟨⟨_, _, _, _, PySem.F.excBase_ValueError, PySem.F.store_ValueError, h1, h2⟩, h3, of_decide_eq_true h4, of_decide_eq_true h5, of_decide_eq_true h6, of_decide_eq_true h7, of_decide_eq_true h8, h9⟩,
    tagB_ok h10, of_decide_eq_true h11, of_decide_eq_true h12, hm⟩
theorem errB_ok {K : PySem.W.Frag} {C1 C : Addr} (h : errB K C1 C = true) : ErrC K C1 C := by
  obtain ⟨h1, h2⟩ := baZ h
  exact ⟨tagB_ok h1, of_decide_eq_true h2⟩
end K03

/-! the hook, over a written list of addresses -/

/-! the standard form, in numbers -/
namespace K03
open PySem L2 Evl OxK
/-! ### the place of a number in a list -/
def ixO (g : Nat) : List Nat → Nat
  | [] => 0
  | a :: r => if a = g then 0 else ixO g r + 1
theorem ixO_spec {g : Nat} : ∀ {l : List Nat}, g ∈ l → l[ixO g l]? = some g ∧ ∀ m z, m < ixO g l → l[m]? = some z → z ≠ g
  | [], h => nomatch h
  | a :: r, h => by
    by_cases e : a = g
    · have z : ixO g (a :: r) = 0 := if_pos e
      rw [z]
      exact ⟨by rw [e]; rfl, fun m y hm => absurd hm (by omega)⟩
    · have z : ixO g (a :: r) = ixO g r + 1 := if_neg e
      have hr : g ∈ r := (List.mem_cons.mp h).resolve_left fun q => e q.symm
      obtain ⟨h1, h2⟩ := ixO_spec hr
      rw [z]
      refine ⟨by simpa using h1, fun m y hm hy => ?_⟩
      cases m with
      | zero =>
        cases hy
        exact e
      | succ m => exact h2 m y (by omega) (by simpa using hy)
theorem ixO_lt {g : Nat} {l : List Nat} (h : g ∈ l) : ixO g l < l.length := (List.getElem?_eq_some_iff.mp (ixO_spec h).1).1
theorem ixO_getD {g : Nat} {l : List Nat} (h : g ∈ l) : l.getD (ixO g l) 0 = g := by rw [List.getD_eq_getElem?_getD, (ixO_spec h).1]; rfl
theorem ixO_at {l : List Nat} (nd : l.Nodup) {i a : Nat} (h : l[i]? = some a) : ixO a l = i := by
  obtain ⟨h1, _⟩ := ixO_spec (List.mem_of_getElem? h)
  obtain ⟨l1, e1⟩ := List.getElem?_eq_some_iff.mp h1
  obtain ⟨l2, e2⟩ := List.getElem?_eq_some_iff.mp h
  exact (List.getElem_inj nd).mp (e1.trans e2.symm)
theorem ixO_map {p : Nat → Nat} {g : Nat} : ∀ {l : List Nat}, (∀ a ∈ l, p a = p g → a = g) → ixO (p g) (l.map p) = ixO g l
  | [], _ => rfl
  | a :: r, h => by
    have ih := ixO_map (p := p) (g := g) (l := r) fun b hb => h b (List.mem_cons_of_mem _ hb)
    show (if p a = p g then 0 else ixO (p g) (r.map p) + 1) = (if a = g then 0 else ixO g r + 1)
    by_cases e : a = g
    · rw [if_pos e, if_pos (by rw [e])]
    · rw [if_neg e, if_neg fun q => e (h a List.mem_cons_self q), ih]
theorem getD_map {f : Nat → Nat} {l : List Nat} {i : Nat} (h : i < l.length) : (l.map f).getD i 0 = f (l.getD i 0) := by
  rw [List.getD_eq_getElem?_getD, List.getD_eq_getElem?_getD, List.getElem?_map, List.getElem?_eq_getElem h]
  rfl
theorem getD_mem {l : List Nat} {i : Nat} (h : i < l.length) : l.getD i 0 ∈ l := by
  rw [List.getD_eq_getElem?_getD, List.getElem?_eq_getElem h]
  exact List.getElem_mem h
/-! ### what the search keeps -/
theorem vis_pre {w : Str} : ∀ (zs : List (Nat × Nat)) (kvs : List (Nat × Str)) (i : Nat) (q : Nat × Str), kvs[i]? = some q → (vis w zs kvs)[i]? = some q
  | [], _, _, _, h => h
  | (c, g) :: r, kvs, i, q, h => by
    show (vis w r (if kvs.any (fun p => p.1 == g) then kvs else kvs ++ [(g, w ++ ⟨#[c]⟩)]))[i]? = some q
    split
    · exact vis_pre r kvs i q h
    · exact vis_pre r _ i q (by rw [List.getElem?_append_left (List.getElem?_eq_some_iff.mp h).1]; exact h)
theorem vis_key {w : Str} {zs : List (Nat × Nat)} {kvs : List (Nat × Str)} {g : Nat} (h : g ∈ kvs.map (·.1)) : g ∈ (vis w zs kvs).map (·.1) := by
  obtain ⟨q, hq, rfl⟩ := List.mem_map.mp h
  obtain ⟨i, hi⟩ := List.mem_iff_getElem?.mp hq
  exact List.mem_map.mpr ⟨q, List.mem_of_getElem? (vis_pre zs kvs i q hi), rfl⟩
theorem vis_all {w : Str} : ∀ (zs : List (Nat × Nat)) (kvs : List (Nat × Str)) (z : Nat × Nat), z ∈ zs → z.2 ∈ (vis w zs kvs).map (·.1)
  | (c, g) :: r, kvs, z, h => by
    show z.2 ∈ (vis w r (if kvs.any (fun p => p.1 == g) then kvs else kvs ++ [(g, w ++ ⟨#[c]⟩)])).map (·.1)
    rcases List.mem_cons.mp h with e | e
    · subst e
      refine vis_key ?_
      cases e : kvs.any fun p => p.1 == g with
      | true => exact any_key.mp e
      | false => simp
    · exact vis_all r _ z e
theorem bfs_step {x : Str} {rows : List (List Nat)} {m d : Nat} {kvs : List (Nat × Str)} {s : Nat} {w : Str} (h : kvs[d]? = some (s, w)) : bfs x rows (m + 1) d kvs = bfs x rows m (d + 1) (vis w ((sg x).zip (rows.getD s [])) kvs) := by
  show (match kvs[d]? with | none => kvs | some (s, w) => bfs x rows m (d + 1) (vis w ((sg x).zip (rows.getD s [])) kvs)) = _
  rw [h]
theorem bfs_stop {x : Str} {rows : List (List Nat)} {m d : Nat} {kvs : List (Nat × Str)} (h : kvs[d]? = none) : bfs x rows m d kvs = kvs := by
  cases m with
  | zero => rfl
  | succ m =>
    show (match kvs[d]? with | none => kvs | some (s, w) => bfs x rows m (d + 1) (vis w ((sg x).zip (rows.getD s [])) kvs)) = _
    rw [h]
theorem bfs_pre {x : Str} {rows : List (List Nat)} : ∀ (m d : Nat) (kvs : List (Nat × Str)) (i : Nat) (q : Nat × Str), kvs[i]? = some q → (bfs x rows m d kvs)[i]? = some q
  | 0, _, _, _, _, h => h
  | m + 1, d, kvs, i, q, h => by
    cases e : kvs[d]? with
    | none => rw [bfs_stop e]; exact h
    | some p =>
      obtain ⟨s, w⟩ := p
      rw [bfs_step e]
      exact bfs_pre m (d + 1) _ i q (vis_pre _ _ i q h)
theorem row_in {x : Str} {rows : List (List Nat)} (ro : RowsOk x rows) {s : Nat} (h : s < rows.length) : rows.getD s [] ∈ rows := by
  rw [List.getD_eq_getElem?_getD, List.getElem?_eq_getElem h]
  exact List.getElem_mem h
theorem goal_lt {x : Str} {rows : List (List Nat)} (ro : RowsOk x rows) {s : Nat} (h : s < rows.length) {z : Nat × Nat} (hz : z ∈ (sg x).zip (rows.getD s [])) : z.2 < rows.length :=
  ro.lt _ (row_in ro h) _ (List.of_mem_zip (show (z.1, z.2) ∈ _ from hz)).2
theorem step_ok {x : Str} {rows : List (List Nat)} (ro : RowsOk x rows) {kvs : List (Nat × Str)} (b : BOk rows.length kvs) {d s : Nat} {w : Str} (e : kvs[d]? = some (s, w)) : BOk rows.length (vis w ((sg x).zip (rows.getD s [])) kvs) :=
  vis_ok (st := s) _ kvs (fun z hz => goal_lt ro (b.lt _ (List.mem_of_getElem? e)) hz) (List.mem_of_getElem? e) b
/-- the first d are done -/
def Done (rows : List (List Nat)) (kvs : List (Nat × Str)) (d : Nat) : Prop := ∀ i s w, i < d → kvs[i]? = some (s, w) → ∀ g ∈ rows.getD s [], g ∈ kvs.map (·.1)
theorem bfs_done {x : Str} {rows : List (List Nat)} (ro : RowsOk x rows) : ∀ (m d : Nat) (kvs : List (Nat × Str)), BOk rows.length kvs → rows.length + 1 ≤ m + d → Done rows kvs d → ∀ i, Done rows (bfs x rows m d kvs) i
  | 0, d, kvs, b, hm, h, i => fun j s w _ hj => by
    have hj2 : kvs[j]? = some (s, w) := hj
    exact h j s w (by have := b.few; have := (List.getElem?_eq_some_iff.mp hj2).1; omega) hj2
  | m + 1, d, kvs, b, hm, h, i => by
    cases e : kvs[d]? with
    | none =>
      rw [bfs_stop e]
      exact fun j s w _ hj => h j s w (by have := (List.getElem?_eq_some_iff.mp hj).1; have := List.getElem?_eq_none_iff.mp e; omega) hj
    | some p =>
      obtain ⟨s, w⟩ := p
      rw [bfs_step e]
      have hs : s < rows.length := b.lt _ (List.mem_of_getElem? e)
      refine bfs_done ro m (d + 1) _ (step_ok ro b e) (by omega) (fun j s2 w2 hj h2 g hg => ?_) i
      have hd := (List.getElem?_eq_some_iff.mp e).1
      obtain ⟨q, hq⟩ : ∃ q, kvs[j]? = some q := ⟨_, List.getElem?_eq_getElem (by omega)⟩
      have q2 := vis_pre (w := w) ((sg x).zip (rows.getD s [])) kvs j q hq
      rw [q2] at h2
      cases h2
      by_cases je : j = d
      · subst je
        rw [hq] at e
        cases e
        obtain ⟨k, hk⟩ := List.mem_iff_getElem?.mp hg
        have wide := ro.wide _ (row_in ro hs)
        have kl := (List.getElem?_eq_some_iff.mp hk).1
        obtain ⟨c, hc⟩ : ∃ c, (sg x)[k]? = some c := ⟨_, List.getElem?_eq_getElem (by omega)⟩
        have hz : ((sg x).zip (rows.getD s []))[k]? = some (c, g) := by rw [List.getElem?_zip_eq_some]; exact ⟨hc, hk⟩
        exact vis_all _ kvs _ (List.mem_of_getElem? hz)
      · exact vis_key (h j s2 w2 (by omega) hq g hg)
theorem bfs_fuel {x : Str} {rows : List (List Nat)} (ro : RowsOk x rows) : ∀ (m m' d : Nat) (kvs : List (Nat × Str)), BOk rows.length kvs → rows.length + 1 ≤ m + d → rows.length + 1 ≤ m' + d → bfs x rows m d kvs = bfs x rows m' d kvs
  | 0, m', d, kvs, b, h1, h2 => by
    have e : kvs[d]? = none := List.getElem?_eq_none_iff.mpr (by have := b.few; omega)
    rw [bfs_stop e, bfs_stop e]
  | m + 1, 0, d, kvs, b, h1, h2 => by
    have e : kvs[d]? = none := List.getElem?_eq_none_iff.mpr (by have := b.few; omega)
    rw [bfs_stop e, bfs_stop e]
  | m + 1, m' + 1, d, kvs, b, h1, h2 => by
    cases e : kvs[d]? with
    | none => rw [bfs_stop e, bfs_stop e]
    | some p =>
      obtain ⟨s, w⟩ := p
      rw [bfs_step e, bfs_step e]
      exact bfs_fuel ro m m' (d + 1) _ (step_ok ro b e) (by omega) (by omega)
/-! ### renamed states -/
def phi (p : Nat → Nat) (q : Nat × Str) : Nat × Str := (p q.1, q.2)
theorem vis_map {n : Nat} {p : Nat → Nat} (inj : ∀ a b, a < n → b < n → p a = p b → a = b) {w : Str} : ∀ (zs : List (Nat × Nat)) (kvs : List (Nat × Str)), (∀ z ∈ zs, z.2 < n) → (∀ q ∈ kvs, q.1 < n) →
    vis w (zs.map fun z => (z.1, p z.2)) (kvs.map (phi p)) = (vis w zs kvs).map (phi p)
  | [], _, _, _ => rfl
  | (c, g) :: r, kvs, hz, hk => by
    have hg : g < n := hz (c, g) List.mem_cons_self
    have hr : ∀ z ∈ r, z.2 < n := fun z hz' => hz z (List.mem_cons_of_mem _ hz')
    have e : (kvs.map (phi p)).any (fun q => q.1 == p g) = kvs.any (fun q => q.1 == g) := by
      rw [Bool.eq_iff_iff, List.any_eq_true, List.any_eq_true]
      constructor
      · rintro ⟨q, hq, h⟩
        obtain ⟨q0, h0, rfl⟩ := List.mem_map.mp hq
        exact ⟨q0, h0, beq_iff_eq.mpr (inj _ _ (hk q0 h0) hg (beq_iff_eq.mp h))⟩
      · rintro ⟨q, hq, h⟩
        exact ⟨phi p q, List.mem_map.mpr ⟨q, hq, rfl⟩, beq_iff_eq.mpr (congrArg p (beq_iff_eq.mp h))⟩
    show vis w (r.map fun z => (z.1, p z.2)) (if (kvs.map (phi p)).any (fun q => q.1 == p g) then kvs.map (phi p) else kvs.map (phi p) ++ [(p g, w ++ ⟨#[c]⟩)]) = (vis w r (if kvs.any (fun q => q.1 == g) then kvs else kvs ++ [(g, w ++ ⟨#[c]⟩)])).map (phi p)
    rw [e]
    cases kvs.any fun q => q.1 == g with
    | true => exact vis_map inj r kvs hr hk
    | false =>
      have z := vis_map inj (w := w) r (kvs ++ [(g, w ++ ⟨#[c]⟩)]) hr fun q hq => by
        rcases List.mem_append.mp hq with h | h
        · exact hk q h
        · simp at h; rw [h]; exact hg
      rw [List.map_append] at z
      exact z
theorem bfs_map {x : Str} {rows rows2 : List (List Nat)} (ro : RowsOk x rows) {p : Nat → Nat} (inj : ∀ a b, a < rows.length → b < rows.length → p a = p b → a = b) (hp : ∀ s, s < rows.length → rows2.getD (p s) [] = (rows.getD s []).map p) :
    ∀ (m d : Nat) (kvs : List (Nat × Str)), BOk rows.length kvs → bfs x rows2 m d (kvs.map (phi p)) = (bfs x rows m d kvs).map (phi p)
  | 0, _, _, _ => rfl
  | m + 1, d, kvs, b => by
    cases e : kvs[d]? with
    | none => rw [bfs_stop e, bfs_stop (by rw [List.getElem?_map, e]; rfl)]
    | some q =>
      obtain ⟨s, w⟩ := q
      have hs : s < rows.length := b.lt _ (List.mem_of_getElem? e)
      have e2 : (kvs.map (phi p))[d]? = some (p s, w) := by rw [List.getElem?_map, e]; rfl
      rw [bfs_step e, bfs_step e2, hp s hs]
      have zm : (sg x).zip ((rows.getD s []).map p) = ((sg x).zip (rows.getD s [])).map fun z => (z.1, p z.2) := by
        rw [List.zip_map_right]
        rfl
      rw [zm, vis_map inj _ kvs (fun z hz => goal_lt ro hs hz) (fun q hq => b.lt q hq)]
      exact bfs_map ro inj hp m (d + 1) _ (step_ok ro b e)
def rch (x : Str) (rows : List (List Nat)) : List Nat := (roads x rows).map (·.1)
section
variable {x : Str} {rows rows2 : List (List Nat)}
theorem bok0 (ro : RowsOk x rows) : BOk rows.length [(0, ⟨#[]⟩)] := ⟨by simp, fun p hp => by simp at hp; subst hp; exact ro.one, fun p hp => by simp at hp; subst hp; exact Nat.zero_lt_one⟩
theorem rch_map (ro : RowsOk x rows) (ro2 : RowsOk x rows2) {p : Nat → Nat} (p0 : p 0 = 0) (inj : ∀ a b, a < rows.length → b < rows.length → p a = p b → a = b) (hp : ∀ s, s < rows.length → rows2.getD (p s) [] = (rows.getD s []).map p) : rch x rows2 = (rch x rows).map p := by
  have z := bfs_map ro inj hp (rows.length + 1 + (rows2.length + 1)) 0 [(0, ⟨#[]⟩)] (bok0 ro)
  have e0 : ([(0, ⟨#[]⟩)] : List (Nat × Str)).map (phi p) = [(0, ⟨#[]⟩)] := by simp [phi, p0]
  rw [e0] at z
  have f1 := bfs_fuel ro (rows.length + 1) (rows.length + 1 + (rows2.length + 1)) 0 _ (bok0 ro) (by omega) (by omega)
  have f2 := bfs_fuel ro2 (rows2.length + 1) (rows.length + 1 + (rows2.length + 1)) 0 _ (bok0 ro2) (by omega) (by omega)
  unfold rch roads
  rw [f2, z, ← f1, List.map_map, List.map_map]
  rfl
theorem rch_nodup (ro : RowsOk x rows) : (rch x rows).Nodup := (roads_ok ro).nod
theorem rch_lt (ro : RowsOk x rows) : ∀ s ∈ rch x rows, s < rows.length := fun s hs => by
  obtain ⟨q, hq, rfl⟩ := List.mem_map.mp hs
  exact (roads_ok ro).lt q hq
theorem rch_len (ro : RowsOk x rows) : (rch x rows).length ≤ rows.length := by
  have := (roads_ok ro).few
  simpa [rch] using this
theorem rch_zero : (rch x rows)[0]? = some 0 := by
  have z := bfs_pre (x := x) (rows := rows) (rows.length + 1) 0 [(0, ⟨#[]⟩)] 0 (0, ⟨#[]⟩) rfl
  unfold rch roads
  rw [List.getElem?_map, z]
  rfl
theorem rch_pos : 1 ≤ (rch x rows).length := (List.getElem?_eq_some_iff.mp (rch_zero (x := x) (rows := rows))).1
theorem rch_goal (ro : RowsOk x rows) {s g : Nat} (hs : s ∈ rch x rows) (hg : g ∈ rows.getD s []) : g ∈ rch x rows := by
  obtain ⟨q, hq, rfl⟩ := List.mem_map.mp hs
  obtain ⟨i, hi⟩ := List.mem_iff_getElem?.mp hq
  exact bfs_done ro (rows.length + 1) 0 _ (bok0 ro) (by omega) (fun j s w hj => absurd hj (by omega)) (i + 1) i q.1 q.2 (by omega) hi g hg
/-! ### the standard form -/
def std (x : Str) (rows : List (List Nat)) : List (List Nat) := (rch x rows).map fun s => (rows.getD s []).map fun g => ixO g (rch x rows)
theorem std_len : (std x rows).length = (rch x rows).length := by simp [std]
theorem std_ok (ro : RowsOk x rows) : RowsOk x (std x rows) := by
  refine ⟨by rw [std_len]; exact rch_pos, by rw [std_len]; exact Nat.le_trans (rch_len ro) ro.most, fun row h => ?_, fun row h g hg => ?_⟩
  · obtain ⟨s, hs, rfl⟩ := List.mem_map.mp h
    rw [List.length_map]
    exact ro.wide _ (row_in ro (rch_lt ro s hs))
  · obtain ⟨s, hs, rfl⟩ := List.mem_map.mp h
    obtain ⟨g0, h0, rfl⟩ := List.mem_map.mp hg
    rw [std_len]
    exact ixO_lt (rch_goal ro hs h0)
theorem std_at {i s : Nat} (h : (rch x rows)[i]? = some s) : (std x rows).getD i [] = (rows.getD s []).map fun g => ixO g (rch x rows) := by
  rw [List.getD_eq_getElem?_getD]
  unfold std
  rw [List.getElem?_map, h]
  rfl
theorem std_inv (ro : RowsOk x rows) (ro2 : RowsOk x rows2) {p : Nat → Nat} (p0 : p 0 = 0) (inj : ∀ a b, a < rows.length → b < rows.length → p a = p b → a = b) (hp : ∀ s, s < rows.length → rows2.getD (p s) [] = (rows.getD s []).map p) : std x rows2 = std x rows := by
  have r := rch_map ro ro2 p0 inj hp
  unfold std
  rw [r, List.map_map]
  refine List.map_congr_left fun s hs => ?_
  show (rows2.getD (p s) []).map (fun g => ixO g ((rch x rows).map p)) = _
  rw [hp s (rch_lt ro s hs), List.map_map]
  refine List.map_congr_left fun g hg => ?_
  exact ixO_map fun a ha e => inj a g (rch_lt ro a ha) (ro.lt _ (row_in ro (rch_lt ro s hs)) g hg) e
theorem std_std (ro : RowsOk x rows) : std x (std x rows) = std x rows := by
  refine (std_inv (std_ok ro) ro (p := fun i => (rch x rows).getD i 0) ?_ (fun a b ha hb e => ?_) (fun s hs => ?_)).symm
  · show (rch x rows).getD 0 0 = 0
    rw [List.getD_eq_getElem?_getD, rch_zero]; rfl
  · rw [std_len] at ha hb
    have e' : (rch x rows).getD a 0 = (rch x rows).getD b 0 := e
    rw [List.getD_eq_getElem?_getD, List.getD_eq_getElem?_getD, List.getElem?_eq_getElem ha, List.getElem?_eq_getElem hb] at e'
    exact (List.getElem_inj (rch_nodup ro)).mp e'
  · rw [std_len] at hs
    have h1 : (rch x rows)[s]? = some ((rch x rows)[s]) := List.getElem?_eq_getElem hs
    rw [std_at h1, List.map_map]
    have h2 : (rch x rows).getD s 0 = (rch x rows)[s] := by rw [List.getD_eq_getElem?_getD, h1]; rfl
    show rows.getD ((rch x rows).getD s 0) [] = _
    rw [h2]
    have : ∀ g ∈ rows.getD ((rch x rows)[s]) [], ((fun i => (rch x rows).getD i 0) ∘ fun g => ixO g (rch x rows)) g = g := fun g hg => ixO_getD (rch_goal ro (List.getElem_mem hs) hg)
    rw [List.map_congr_left this, List.map_id']
/-- where a word leads -/
def wlk (x : Str) (rows : List (List Nat)) : Nat → List Nat → Nat
  | s, [] => s
  | s, c :: r => wlk x rows ((rows.getD s []).getD (ixO c (sg x)) 0) r
theorem std_wlk (ro : RowsOk x rows) : ∀ (cs : List Nat) (s : Nat), (∀ c ∈ cs, c ∈ sg x) → s ∈ rch x rows → wlk x (std x rows) (ixO s (rch x rows)) cs = ixO (wlk x rows s cs) (rch x rows) ∧ wlk x rows s cs ∈ rch x rows
  | [], s, _, hs => ⟨rfl, hs⟩
  | c :: r, s, hc, hs => by
    have hl : ixO c (sg x) < (rows.getD s []).length := by rw [ro.wide _ (row_in ro (rch_lt ro s hs))]; exact ixO_lt (hc c List.mem_cons_self)
    have hg : (rows.getD s []).getD (ixO c (sg x)) 0 ∈ rows.getD s [] := getD_mem hl
    have ih := std_wlk ro r _ (fun c' h => hc c' (List.mem_cons_of_mem _ h)) (rch_goal ro hs hg)
    show wlk x (std x rows) (((std x rows).getD (ixO s (rch x rows)) []).getD (ixO c (sg x)) 0) r = ixO (wlk x rows ((rows.getD s []).getD (ixO c (sg x)) 0) r) (rch x rows) ∧ wlk x rows ((rows.getD s []).getD (ixO c (sg x)) 0) r ∈ rch x rows
    rw [std_at (ixO_spec hs).1]
    have e : ((rows.getD s []).map fun g => ixO g (rch x rows)).getD (ixO c (sg x)) 0 = ixO ((rows.getD s []).getD (ixO c (sg x)) 0) (rch x rows) := getD_map hl
    rw [e]
    exact ih
end
end K03

/-! where a word leads -/
namespace K03
open PySem L2 Evl OxK
structure WordOk (x w : Str) : Prop where
  of : ∀ c ∈ sg w, c ∈ sg x
  few : w.length ≤ 100
theorem find5 : ∀ x ∈ five5, ∀ j : Nat, j < 3 → ((sg x)[j]?.all fun c => decide (Txt.find x ⟨#[c]⟩ = (j : Int)) && !(Builtin.Str.occurrences x ⟨#[c]⟩ 0 x.length 1).isEmpty) = true := by decide +kernel
theorem find_ok {x : Str} (x5 : x ∈ five5) {c : Nat} (hc : c ∈ sg x) : Txt.find x ⟨#[c]⟩ = ((ixO c (sg x) : Nat) : Int) ∧ (!(Builtin.Str.occurrences x ⟨#[c]⟩ 0 x.length 1).isEmpty) = true := by
  have h3 := (alpha5 x x5).three
  have lt := ixO_lt hc
  have z := find5 x x5 (ixO c (sg x)) (by omega)
  rw [(ixO_spec hc).1] at z
  obtain ⟨z1, z2⟩ := Bool.and_eq_true_iff.mp (show (decide (Txt.find x ⟨#[c]⟩ = ((ixO c (sg x) : Nat) : Int)) && !(Builtin.Str.occurrences x ⟨#[c]⟩ 0 x.length 1).isEmpty) = true from z)
  exact ⟨of_decide_eq_true z1, z2⟩
def spWd : Sp := fun vs H Q _ => ∃ (x w : Str), vs = [.str w, .str x] ∧ x ∈ five5 ∧ WordOk x w ∧ ∀ H', Ex H H' → Q (.bl true) H'
def spRqs (K : PySem.W.Frag) (C : Addr) : Sp := fun vs H Q _ => ∃ (s : Addr) (x : Str) (rows : List (List Nat)) (st : Nat), vs = [.ref s, .int (st : Int)] ∧ IsM K C H s x rows ∧ st < rows.length ∧ ∀ H', Ex H H' → Q .non H'
def spRqw (K : PySem.W.Frag) (C : Addr) : Sp := fun vs H Q _ => ∃ (s : Addr) (x w : Str) (rows : List (List Nat)), vs = [.ref s, .str w] ∧ IsM K C H s x rows ∧ x ∈ five5 ∧ WordOk x w ∧ ∀ H', Ex H H' → Q .non H'
def spWk (K : PySem.W.Frag) (C : Addr) : Sp := fun vs H Q _ => ∃ (s : Addr) (x w : Str) (rows : List (List Nat)) (st : Nat), vs = [.ref s, .str w, .int (st : Int)] ∧ IsM K C H s x rows ∧ x ∈ five5 ∧ RowsOk x rows ∧ WordOk x w ∧ st < rows.length ∧ ∀ H', Ex H H' → Q (.int (wlk x rows st (sg w) : Int)) H'
def spBh (K : PySem.W.Frag) (C : Addr) : Sp := fun vs H Q _ => ∃ (s : Addr) (x w : Str) (rows : List (List Nat)), vs = [.ref s, .str w, .int 0] ∧ IsM K C H s x rows ∧ x ∈ five5 ∧ RowsOk x rows ∧ WordOk x w ∧ ∀ H', Ex H H' → Q (.int (wlk x rows 0 (sg w) : Int)) H'
theorem wlk_snoc {x : Str} {rows : List (List Nat)} {c : Nat} : ∀ (l : List Nat) (s : Nat), wlk x rows s (l ++ [c]) = (rows.getD (wlk x rows s l) []).getD (ixO c (sg x)) 0
  | [], _ => rfl
  | a :: l, s => wlk_snoc l _
theorem wlk_lt {x : Str} {rows : List (List Nat)} (ro : RowsOk x rows) : ∀ (l : List Nat) (s : Nat), (∀ c ∈ l, c ∈ sg x) → s < rows.length → wlk x rows s l < rows.length
  | [], _, _, h => h
  | c :: l, s, hc, h => by
    refine wlk_lt ro l _ (fun a ha => hc a (List.mem_cons_of_mem _ ha)) ?_
    have hl : ixO c (sg x) < (rows.getD s []).length := by rw [ro.wide _ (row_in ro h)]; exact ixO_lt (hc c List.mem_cons_self)
    exact ro.lt _ (row_in ro h) _ (getD_mem hl)
/-- the signs of a text, one by one -/
theorem wk_str {z : Str} {H0 : Hp} : Wk (Its z) H0 (sg z).length (fun i y H1 H2 => H2 = H1 ∧ ∃ c, (sg z)[i]? = some c ∧ y = .str ⟨#[c]⟩) := by
  have hc : z.cps.size = (sg z).length := by simp [sg]
  exact ⟨fun i _ _ hi => (show i < z.cps.size by omega), fun _ _ => (show z.cps.size ≤ (sg z).length by omega), fun i H3 y H4 _ _ ⟨r1, c, h1, h2⟩ => ⟨r1, c, by simpa [sg] using h1, h2⟩⟩
section
variable {P : Program} {w : World} {K : PySem.W.Frag} {mg : Str → Option Value} {base : Heap} {f : Addr} {fd : FuncData}
theorem scWd : FnScope ["value", "alphabet", "letter"] ["value", "alphabet"] (defScope sWd) := ⟨rfl, rfl, rfl, by decide +kernel, rfl, by decide +kernel, by decide +kernel⟩
theorem ok_wd (F : FnP K "is_word" sWd f fd) (T : NoS mg) : FnOk P w K mg base CX0 1 f fd ["value", "alphabet"] spWd := by
  refine F.ok scWd (fun vs H Q E h => ?_) (fun cdv A outer s H vs Q E hr h => ?_)
  · obtain ⟨x, w, rfl, _⟩ := h
    rfl
  · obtain ⟨x, wd, rfl, x5, wo, k⟩ := h
    refine ⟨_, PSs.nox (pss_one (ps_ret (pe_and (pe_callB call_isi (by rfl) T.b.isi PyProof.Rows.boot_isinstance (pa_cons (pv 0) (pa_cons (pe_bltn (v := .ty "str") (by rfl) T.str (by decide +kernel) rfl) pa_nil)))
      (pe_one (pe_callB (cr_all rfl) (by rfl) T.all PyProof.Rows.boot_all (pa_cons (pe_lc (own := [("letter", 2)]) (g := gName 2) (tt := tYes) (by rfl) scWd.nd (pi_str (pv 0)) (blkOk_by (own := [("letter", 2)]) (N := ["value", "alphabet", "letter"]) (sc := defScope sWd) (by decide +kernel))
          (fun _ _ _ _ _ => pg_name (i := 2) scWd.nd rfl (Or.inl rfl)) (fun _ _ _ _ _ => pts_nil) (fun _ _ _ _ _ => pe_cmpR op_in_str (pv 2) (pv 1) (by with_unfolding_all rfl))) pa_nil)))))), ?_⟩
    have kx : Kn K H (.str wd) "str" := kn_flat True.intro
    have hl : wd.length = (sg wd).length := by simp [Str.length, sg]
    have few := wo.few
    refine s_ret (v := .bl true) (ev_is (ev_andV (a := true) (b := true) (ev_isi (ev_var rfl) kx) (fun _ => ev_allT0 (n := wd.length) ?_)) rfl) fun H3 e3 => k H3 e3
    intro H3 e3 Q3 q3
    refine ⟨_, rfl, wd, rfl, fun D hD => ?_⟩
    refine lc_true (K := K) (J := Its wd) (n := wd.length) hD (by omega) (fun i H4 _ hi => hi) (fun H4 _ => Nat.le_refl _) (fun i H4 y H5 e4 hi ⟨r, c, hc, ry⟩ => ?_) (g_name_mono 2) (fun H4 e4 h4 => q3 D H4 hD e4 h4)
    subst r ry
    refine ⟨Ex.refl _, rfl, rfl, fun Q4 q4 => ?_⟩
    have hm : c ∈ sg wd := by
      have z : (sg wd)[i]? = some c := by simpa [sg] using hc
      exact List.mem_of_getElem? z
    have z := (find_ok x5 (wo.of c hm)).2
    refine ⟨_, rfl, _, rfl, _, _, rfl, rfl, ?_⟩
    have q5 := q4
    rw [← z] at q5
    exact q5
theorem scRqs : FnScope ["self", "state"] ["self", "state"] (defScope sRqs) := ⟨rfl, rfl, rfl, by decide +kernel, rfl, by decide +kernel, by decide +kernel⟩
theorem ok_rqs {fX fN C : Addr} {fdX fdN : FuncData} (F : FunD K "require_state" "Machine.require_state" (defArgs sRqs) (defBody sRqs) (defScope sRqs) [] [] f fd) (FX : FnP K "is_index" sIdx fX fdX) (gX : mg "is_index" = some (.ref fX)) (FN : FnP K "is_number" sNum fN fdN) (gN : mg "is_number" = some (.ref fN)) (T : NoS mg) (MC : MCls K C) :
    FnOk P w K mg base CX0 3 f fd ["self", "state"] (spRqs K C) := by
  have GX : FnOk P w K mg base CX0 2 fX fdX ["value", "size"] (spIdx K) := ok_idx FX FN T gN
  have bX : Binds K fdX ["value", "size"] [] := FX.bindsN fun _ _ _ _ _ _ us hl => match us, hl with | [_, _], _ => rfl
  refine F.ok scRqs (fun vs H Q E h => ?_) (fun cdv A outer s H vs Q E hr h => ?_)
  · obtain ⟨s, x, rows, st, rfl, _⟩ := h
    rfl
  · obtain ⟨se, x, rows, st, rfl, ⟨dx, r, d, hs, ⟨bs, hB, bl, hR⟩, hd⟩, lt, k⟩ := h
    refine ⟨_, PSs.nox (pss_one (ps_if (pt_not (pt_val (pe_call GX hr rfl gX FX.kp bX .nil pass0 (pa_cons (pv 1) (pa_cons (pe_callB call_len_seq (by rfl) T.len PySem.boot_len (pa_cons (pe_fld (pv 0) rfl) pa_nil)) pa_nil))))) (pss_one ps_never) pss_nil)), ?_⟩
    refine s_if (b := false) (et_not (a := true) (et_B ?_)) (fun h => nomatch h) (fun _ H1 e1 => k H1 e1)
    intro H1 e1 Q1 q1
    refine ⟨_, rfl, _, rfl, se, C, dx, _, .ref r, rfl, e1 _ _ hs, MC.c, MC.r, rfl, r, bs.map V.ref, rfl, .inr (ex_t e1 hB), ?_⟩
    refine ⟨_, _, rfl, True.intro, fun H2 e2 => ?_⟩
    have z : isIx (.int (st : Int)) (((bs.map V.ref).length : Nat) : Int) = true := by
      show (decide (0 ≤ (st : Int)) && decide ((st : Int) < _)) = true
      rw [List.length_map, bl]
      simp
      exact lt
    have q2 := q1 H2 e2
    rw [← z] at q2
    exact q2
theorem scRqw : FnScope ["self", "word"] ["self", "word"] (defScope sRqw) := ⟨rfl, rfl, rfl, by decide +kernel, rfl, by decide +kernel, by decide +kernel⟩
theorem ok_rqw {fW C : Addr} {fdW : FuncData} (F : FunD K "require_word" "Machine.require_word" (defArgs sRqw) (defBody sRqw) (defScope sRqw) [] [] f fd) (FW : FnP K "is_word" sWd fW fdW) (gW : mg "is_word" = some (.ref fW)) (T : NoS mg) (MC : MCls K C) :
    FnOk P w K mg base CX0 2 f fd ["self", "word"] (spRqw K C) := by
  have GW : FnOk P w K mg base CX0 1 fW fdW ["value", "alphabet"] spWd := ok_wd FW T
  have bW : Binds K fdW ["value", "alphabet"] [] := FW.bindsN fun _ _ _ _ _ _ us hl => match us, hl with | [_, _], _ => rfl
  refine F.ok scRqw (fun vs H Q E h => ?_) (fun cdv A outer s H vs Q E hr h => ?_)
  · obtain ⟨s, x, wd, rows, rfl, _⟩ := h
    rfl
  · obtain ⟨se, x, wd, rows, rfl, ⟨dx, r, d, hs, _, hd⟩, x5, wo, k⟩ := h
    refine ⟨_, PSs.nox (pss_one (ps_if (pt_not (pt_val (pe_call GW hr rfl gW FW.kp bW .nil pass0 (pa_cons (pv 1) (pa_cons (pe_fld (pv 0) rfl) pa_nil))))) (pss_one ps_never) pss_nil)), ?_⟩
    refine s_if (b := false) (et_not (a := true) (et_B ?_)) (fun h => nomatch h) (fun _ H1 e1 => k H1 e1)
    intro H1 e1 Q1 q1
    exact ⟨_, rfl, _, rfl, se, C, dx, _, .str x, rfl, e1 _ _ hs, MC.c, MC.s, rfl, x, wd, rfl, x5, wo, q1⟩
theorem scWk : FnScope ["self", "word", "state", "letter"] ["self", "word", "state"] (defScope sWk) := ⟨rfl, rfl, rfl, by decide +kernel, rfl, by decide +kernel, by decide +kernel⟩
theorem ok_wk {C : Addr} (F : FunD K "walk" "Machine.walk" (defArgs sWk) (defBody sWk) (defScope sWk) [] [] f fd) (MC : MCls K C) : FnOk P w K mg base CX0 1 f fd ["self", "word", "state"] (spWk K C) := by
  refine F.ok scWk (fun vs H Q E h => ?_) (fun cdv A outer s H vs Q E hr h => ?_)
  · obtain ⟨s, x, wd, rows, st, rfl, _⟩ := h
    rfl
  · obtain ⟨se, x, wd, rows, st, rfl, ⟨dx, r, d, hs, ⟨bs, hB, bl, hR⟩, hd⟩, x5, ro, wo, lt, k⟩ := h
    refine ⟨_, PSs.nox (pss_cons (ps_for PassesOwn.never rfl (pi_str (pv 1)) (pg_name (i := 3) scWk.nd rfl (Or.inl rfl))
      (pss_one (ps_set (i := 2) scWk.nd rfl (Or.inl rfl) (pe_ix ix_tup (pe_ix ix_tup (pe_fld (pv 0) rfl) (pv 2) (fun _ _ => rfl)) (pe_m1 PySem.F.slot_str_find PySem.F.type_str_find mt_find (pe_fld (pv 0) rfl) (pv 3)) (fun _ _ => rfl)))))
      (pss_one (ps_ret (pv 2)))), ?_⟩
    refine ⟨_, rfl, wd, rfl, ?_⟩
    refine for_wk (wk_str (z := wd) (H0 := H)) (fun i σ' H' => H' = H ∧ ∃ u, σ' = [some (.ref se), some (.str wd), some (.int ((wlk x rows st ((sg wd).take i) : Nat) : Int)), u]) ⟨rfl, none, rfl⟩ (fun i σ' H' p => by rw [p.1]; exact Ex.refl H) ?_ ?_
    · rintro i y σ' H1 H2 hi ⟨rfl, c, hc, rfl⟩ ⟨rfl, u, rfl⟩
      have cm := wo.of c (List.mem_of_getElem? hc)
      have lt2 := wlk_lt ro ((sg wd).take i) st (fun a ha => wo.of a (List.mem_of_mem_take ha)) lt
      obtain ⟨row, hrow⟩ : ∃ row, rows[wlk x rows st ((sg wd).take i)]? = some row := ⟨_, List.getElem?_eq_getElem lt2⟩
      obtain ⟨b, hb⟩ : ∃ b, bs[wlk x rows st ((sg wd).take i)]? = some b := ⟨_, List.getElem?_eq_getElem (by omega)⟩
      have hl : ixO c (sg x) < row.length := by rw [ro.wide _ (List.mem_of_getElem? hrow)]; exact ixO_lt cm
      have h1 : (bs.map V.ref)[wlk x rows st ((sg wd).take i)]? = some (V.ref b) := by rw [List.getElem?_map, hb]; rfl
      have h2 : (row.map fun g : Nat => V.int (g : Int))[ixO c (sg x)]? = some (V.int ((row.getD (ixO c (sg x)) 0 : Nat) : Int)) := by
        rw [List.getElem?_map, List.getElem?_eq_getElem hl, List.getD_eq_getElem?_getD, List.getElem?_eq_getElem hl]
        rfl
      refine ⟨_, rfl, se, C, dx, _, .ref r, rfl, hs, MC.c, MC.r, rfl, _, rfl, r, _, _, _, rfl, rfl, hB, atI_nat h1, ?_⟩
      refine ⟨_, rfl, se, C, dx, _, .str x, rfl, hs, MC.c, MC.s, rfl, ⟨x, rfl⟩, _, rfl, x, ⟨#[c]⟩, rfl, rfl, ?_⟩
      rw [(find_ok x5 cm).1]
      refine ⟨b, _, _, _, rfl, rfl, hR _ b row hb hrow, atI_nat h2, ?_⟩
      refine ⟨rfl, some (.str ⟨#[c]⟩), ?_⟩
      have z : (sg wd).take (i + 1) = (sg wd).take i ++ [c] := by rw [List.take_add_one, hc]; rfl
      have rr : rows.getD (wlk x rows st ((sg wd).take i)) [] = row := by
        rw [List.getD_eq_getElem?_getD, hrow]
        rfl
      rw [z, wlk_snoc, rr]
      rfl
    · rintro σ' H1 ⟨rfl, u, rfl⟩
      refine ⟨_, rfl, ?_⟩
      rw [List.take_length]
      exact k H1 (Ex.refl _)
theorem scBh : FnScope ["self", "word", "state"] ["self", "word", "state"] (defScope sBh) := ⟨rfl, rfl, rfl, by decide +kernel, rfl, by decide +kernel, by decide +kernel⟩
theorem ok_bh {C fS fW fK : Addr} {fdS fdW fdK : FuncData} (F : FunD K "behind" "Machine.behind" (defArgs sBh) (defBody sBh) (defScope sBh) [] [("state", .int 0)] f fd) (MC : MCls K C)
    (mS : Meth K C "require_state" fS) (GS : FnOk P w K mg base CX0 3 fS fdS ["self", "state"] (spRqs K C)) (bS : Binds K fdS ["self", "state"] [])
    (mW : Meth K C "require_word" fW) (GW : FnOk P w K mg base CX0 2 fW fdW ["self", "word"] (spRqw K C)) (bW : Binds K fdW ["self", "word"] [])
    (mK : Meth K C "walk" fK) (GK : FnOk P w K mg base CX0 1 fK fdK ["self", "word", "state"] (spWk K C)) (bK : Binds K fdK ["self", "word", "state"] []) :
    FnOk P w K mg base CX0 4 f fd ["self", "word", "state"] (spBh K C) := by
  refine F.ok scBh (fun vs H Q E h => ?_) (fun cdv A outer s H vs Q E hr h => ?_)
  · obtain ⟨s, x, wd, rows, rfl, _⟩ := h
    rfl
  · obtain ⟨se, x, wd, rows, rfl, im, x5, ro, wo, k⟩ := h
    refine ⟨_, PSs.nox (pss_cons (ps_expr (pe_meth (pv 0) MC.c mS GS hr bS .nil pass0 (pa_cons (pv 2) pa_nil)))
      (pss_cons (ps_expr (pe_meth (pv 0) MC.c mW GW (hr.mono (by decide)) bW .nil pass0 (pa_cons (pv 1) pa_nil)))
      (pss_one (ps_ret (pe_meth (pv 0) MC.c mK GK (hr.mono (by decide)) bK .nil pass0 (pa_cons (pv 1) (pa_cons (pv 2) pa_nil))))))), ?_⟩
    obtain ⟨dx, r, d, hs, r1⟩ := id im
    refine ⟨_, rfl, se, dx, _, rfl, hs, rfl, _, rfl, se, x, rows, 0, rfl, im, ro.one, fun H1 e1 => ?_⟩
    have im1 := sqt_ex im e1
    refine ⟨_, rfl, se, dx, _, rfl, e1 _ _ hs, rfl, _, rfl, se, x, wd, rows, rfl, im1, x5, wo, fun H2 e2 => ?_⟩
    have im2 := sqt_ex im1 e2
    exact ⟨_, rfl, se, dx, _, rfl, e2 _ _ (e1 _ _ hs), rfl, _, rfl, _, rfl, se, x, wd, rows, 0, rfl, im2, x5, ro, wo, ro.one, fun H3 e3 => k H3 ((e1.trans e2).trans e3)⟩
/-- m.behind(word) -/
theorem bd_bh (F : FunD K "behind" "Machine.behind" (defArgs sBh) (defBody sBh) (defScope sBh) [] [("state", .int 0)] f fd) : ∃ ds, Vals [V.int 0] ds ∧ Binds K fd ["self", "word", "state"] ds :=
  F.binds0 2 (by decide) rfl fun D doc pm an cdv ct us ks h1 h2 => by
    match us, ks, h1, h2 with
    | [a, b], [c], _, _ => exact ⟨_, _, _, _, _, _, rfl, rfl, rfl⟩
end
end K03

/-! f(k = v, ..), no argument by place; a dict comprehension over any walk -/
namespace L2
open PySem PySem.Spec PyProof.Rows Evl
section
variable {X : Cx} {CX : CXT} {k : Nat} {f : Addr} {fd : FuncData} {ps ks : List Str} {sp : Sp} {E : XK} {x : Str} {p pos : Pos} {kws : List Keyword} {tk : TA} {g : List Value → List Value → List Value} {gV : List V → List V → List V}
theorem pe_callN0 (F : FnOk X.prog X.w X.K X.mg X.base CX k f fd ps sp) (hr : Room k X.A) (hg : Gl X x) (hm : X.mg x = some (.ref f)) (hk : PySem.W.keepIn X.K (.ref f) = true) (hb : KBn X.K fd ps 0 ks g gV) (hx : Passes CX X E) (hkw : PK X kws tk)
    (hall : (backToKw pos (keywordEach kws X.env)).all (·.1.isSome) = true := by rfl) (hks : (backToKw pos (keywordEach kws X.env)).filterMap (·.1) = ks := by rfl) (hdb : (x == ("__debug__" : Str)) = false := by decide)
    (hpl : ((backTo pos (starEach [] X.env)).any (·.1) || (backToKw pos (keywordEach kws X.env)).any (·.1.isNone)) = false := by rfl) :
    PE X (.Call (.Name x p) [] kws pos) (tCallN 0 ks.length sp gV E tNil tk) := by
  refine ⟨fun pins s σ H Q I h => ?_⟩
  refine wpAny_Call_Name_kw (ld_glob I hg hm ?_ hdb)
  refine PySem.W.callWith_KW0 (h₀ := X.base) I.ok.mod.kin hk hall ?_ hpl
  refine thn (hkw.run pos pins s σ H _ I h) fun ws s2 ⟨zs, H2, I2, rz, l1, l2, q2⟩ => ⟨I2.kIn, ?_⟩
  rw [hks]
  exact run_fnN (us := []) (vs := []) F hr hb hx I2 .nil rz rfl l2 q2
end
theorem dc_any {J : It} {n : Nat} {g : TG} {tt : TT} {tk tv : TE} {vs : List Nat} {σ : L2.St} {H1 : Hp} {D : Addr} {Qd : Hp → Prop} (Pv : Nat → Hp → Prop) (h0 : Pv 0 (upd H1 D (.dK []))) (hgo : ∀ i H, i < n → Pv i H → J.go i H) (hst : ∀ H, Pv n H → J.stop n H)
    (hs : ∀ i H x H', i < n → Pv i H → J.yld i H x H' → g x (wipe σ vs) H' fun σ2 H2 => wipe σ2 vs = wipe σ vs ∧ tt σ2 H2 fun b H3 =>
      if b = true then tk σ2 H3 fun y H4 => tv σ2 H4 fun z H5 => ∃ kvs k, y = kV k ∧ H5 D = some (.dK kvs) ∧ kvs.length < sizeLine ∧ Pv (i + 1) (upd H5 D (.dK (putK kvs k z))) else Pv (i + 1) H3) (hd : ∀ H, Pv n H → Qd H) :
    ∃ W : Nat → Nat → Hp → Prop, (∃ m, W 0 m (upd H1 D (.dK []))) ∧ ∀ i m H, W i m H →
      (J.stop i H ∧ Qd H) ∨ (J.go i H ∧ ∃ Nx : Hp → Prop, (∀ H', Nx H' → ∃ m', m' < m ∧ W (i + 1) m' H') ∧ ∀ x H', J.yld i H x H' → g x (wipe σ vs) H' fun σ2 H2 => wipe σ2 vs = wipe σ vs ∧ tt σ2 H2 fun b H3 =>
        if b = true then tk σ2 H3 fun y H4 => tv σ2 H4 fun z H5 => ∃ kvs k, y = kV k ∧ H5 D = some (.dK kvs) ∧ kvs.length < sizeLine ∧ Nx (upd H5 D (.dK (putK kvs k z))) else Nx H3) := by
  refine ⟨fun i m H => i + m = n ∧ Pv i H, ⟨n, Nat.zero_add n, h0⟩, fun i m H ⟨e, p⟩ => ?_⟩
  cases m with
  | zero =>
    cases (show i = n from e)
    exact .inl ⟨hst H p, hd H p⟩
  | succ k =>
    have lt : i < n := by omega
    exact .inr ⟨hgo i H lt p, Pv (i + 1), fun H' p' => ⟨k, Nat.lt_succ_self k, by omega, p'⟩, fun x H' y => hs i H x H' lt p y⟩
end L2

/-! for over any walk, whose body may change the heap -/
namespace L2
open PySem PySem.Spec PyProof.Rows Evl
theorem for_any {J : It} {n : Nat} {g : TG} {tb : TS} {D : Ends} {σ : L2.St} {H : Hp} (Pv : Nat → L2.St → Hp → Prop) (h0 : Pv 0 σ H) (hgo : ∀ i σ H, i < n → Pv i σ H → J.go i H) (hst : ∀ σ H, Pv n σ H → J.stop n H)
    (hs : ∀ i x σ H H', i < n → Pv i σ H → J.yld i H x H' → g x σ H' fun σ2 H2 => tb { D with nx := Pv (i + 1), ct := Pv (i + 1), bk := D.nx } σ2 H2) (hd : ∀ σ H, Pv n σ H → D.nx σ H) :
    ∃ W : Nat → Nat → L2.St → Hp → Prop, (∃ m, W 0 m σ H) ∧ ∀ i m σ H, W i m σ H →
      (J.stop i H ∧ D.nx σ H) ∨ (J.go i H ∧ ∃ N : L2.St → Hp → Prop, (∀ σ' H', N σ' H' → ∃ m', m' < m ∧ W (i + 1) m' σ' H') ∧ ∀ x H', J.yld i H x H' → g x σ H' fun σ2 H2 => tb { D with nx := N, ct := N, bk := D.nx } σ2 H2) := by
  refine ⟨fun i m σ H => m = n - i ∧ i ≤ n ∧ Pv i σ H, ⟨n, by simp, Nat.zero_le _, h0⟩, ?_⟩
  rintro i m σ H ⟨rfl, hi, p⟩
  by_cases hlt : i < n
  · exact .inr ⟨hgo i σ H hlt p, Pv (i + 1), fun σ' H' p' => ⟨n - (i + 1), by omega, rfl, hlt, p'⟩, fun x H' y => hs i x σ H H' hlt p y⟩
  · have q : i = n := by omega
    subst q
    exact .inl ⟨hst σ H p, hd σ H p⟩
theorem tt_yesZ {σ : L2.St} {H : Hp} {A B : Hp → Prop} (h : A H) : tYes σ H fun b H3 => if b = true then A H3 else B H3 := by
  show (if true = true then A H else B H)
  rw [if_pos rfl]
  exact h
/-- a comprehension over a walk that changes nothing, whose items are values -/
theorem lc_vals {wi : TI} {te : TE} {σ : L2.St} {H : Hp} {j : Nat} {vs : List Nat} {n : Nat} {yl : Nat → V → Hp → Hp → Prop} (v : Nat → V) (hwi : ∀ H1, Ex H H1 → ∀ R : It → Hp → Prop, (∀ J H2, Ex H1 H2 → Wk J H2 n yl → R J H2) → wi σ H1 R) (hn : n ≤ 100) (hy : ∀ i y H1 H2, yl i y H1 H2 → H2 = H1)
    (hw : ∀ x, wipe ((wipe σ vs).set j (some x)) vs = wipe σ vs) (it : ∀ i y H1, Ex H H1 → i < n → yl i y H1 H1 → Ev te ((wipe σ vs).set j (some y)) H1 (v i)) :
    EvL (tLc wi (gName j) tYes te vs) σ H ((List.range n).map v) := by
  intro H0 e0 Q q
  refine hwi H0 e0 _ fun J H1 e1 wk D hD => ?_
  refine ⟨fun i m H' => i + m = n ∧ Ex H1 H' ∧ H' D = some (.lst ((List.range i).map v)), ⟨n, Nat.zero_add n, Ex.new hD, upd_same⟩, ?_⟩
  rintro i m H4 ⟨im, e4, hDl⟩
  cases m with
  | zero =>
    cases (show i = n from im)
    exact .inl ⟨wk.stop H4 e4, q D H4 (fresh_back e1 hD) (e1.trans e4) hDl⟩
  | succ k =>
    have hi : i < n := by omega
    refine .inr ⟨wk.go i H4 e4 hi, fun H' => Ex H1 H' ∧ H' D = some (.lst ((List.range (i + 1)).map v)), fun H' p' => ⟨k, Nat.lt_succ_self k, by omega, p'⟩, fun y H5 yl' => ?_⟩
    have yy := wk.yld i H4 y H5 e4 hi yl'
    have r := hy _ _ _ _ yy
    subst r
    refine ⟨hw y, tt_yesZ ?_⟩
    refine it i y _ ((e0.trans e1).trans e4) hi yy _ (Ex.refl _) _ fun H6 e6 => ?_
    refine ⟨_, e6 _ _ hDl, sz_lt (by simp; omega), Ex.mut (e4.trans e6) hD, ?_⟩
    rw [upd_same, List.range_succ]
    simp
end L2

/-! one of two readings; the place of an int in a tuple -/
namespace L2
open PySem PySem.Spec PyProof.Rows Evl
def tOrE (t1 t2 : TE) : TE := fun σ H Q => t1 σ H Q ∨ t2 σ H Q
theorem pe_or2 {X : Cx} {e : Expr} {t1 t2 : TE} (h1 : PE X e t1) (h2 : PE X e t2) : PE X e (tOrE t1 t2) := ⟨fun pins s σ H Q I h => h.elim (h1.run pins s σ H Q I) (h2.run pins s σ H Q I)⟩
def ixI (g : Int) : List Int → Nat
  | [] => 0
  | a :: r => if a = g then 0 else ixI g r + 1
theorem idx_ix (g : Int) : ∀ l : List Int, l.idxOf g = ixI g l
  | [] => rfl
  | a :: r => by
    have ih := idx_ix g r
    rw [List.idxOf_cons, ih]
    show _ = if a = g then 0 else ixI g r + 1
    by_cases e : a = g
    · rw [if_pos e, e]; simp
    · rw [if_neg e]
      have : (a == g) = false := beq_eq_false_iff_ne.mpr e
      rw [this]
      rfl
theorem ints_valsI : ∀ {ns : List Int} {vs : List Value}, Vals (ns.map V.int) vs → IntsAre vs ns
  | [], _, h => by cases h; exact IntsAre.nil
  | n :: ns, _, h => by
    cases h with
    | cons r t =>
      obtain ⟨u, rfl⟩ := r
      exact IntsAre.cons _ _ (ints_valsI t)
def rIndexTI (K : PySem.W.Frag) : V → List V → Hp → VK → Prop := fun x xs H Q => ∃ (p : Addr) (ns : List Int) (k : Int), x = .ref p ∧ xs = [.int k] ∧ SqT K H p (ns.map V.int) ∧ k ∈ ns ∧ Q (.int (ixI k ns : Int)) H
theorem mt_tup_indexI {X : Cx} {K : PySem.W.Frag} (h : X.K = K := by rfl) : MtR X "tuple.index" (rIndexTI K) := by
  subst h
  intro pins s σ H x xs v us Q I rx rs h
  obtain ⟨p, ns, k, rfl, rfl, hq, hk, q⟩ := h
  cases rx
  obtain ⟨u, rfl, t, rfl⟩ := vals1 rs
  obtain ⟨its, r, pl, hz⟩ := I.tuple hq
  refine PySem.SeqAt.tuple_index_ints (vs := its) ?_ (ints_valsI r) hk ⟨.int _, H, I.tok _, ⟨_, rfl⟩, ?_⟩
  · exact pl
  · rw [idx_ix]
    exact q
/-- a tuple whose object is known to have no dict -/
def TupZ (H : Hp) (p : Addr) (xs : List V) : Prop := ∃ o : Obj, H p = some (.frz o (.tup xs)) ∧ o.cls = .type "tuple" ∧ o.dict = none
theorem TupZ.sq {K : PySem.W.Frag} {H : Hp} {p : Addr} {xs : List V} (h : TupZ H p xs) : SqT K H p xs := by
  obtain ⟨o, h, _⟩ := h
  exact .inl (.inr ⟨o, h⟩)
theorem TupZ.ex {H H' : Hp} {p : Addr} {xs : List V} (h : TupZ H p xs) (e : Ex H H') : TupZ H' p xs := by
  obtain ⟨o, h, r⟩ := h
  exact ⟨o, e _ _ h, r⟩
/-- tuple(list): its object known -/
def rTupZ (K : PySem.W.Frag) : List V → Hp → VK → Prop := fun xs H Q => ∃ (p : Addr) (ys : List V), xs = [.ref p] ∧ SqL K H p ys ∧ ∀ (l : Addr) (H' : Hp), H l = none → Ex H H' → TupZ H' l ys → Q (.ref l) H'
theorem call_tuple_ofZ {X : Cx} {K : PySem.W.Frag} (h : X.K = K := by rfl) : CallR X (.type "tuple") (rTupZ K) := by
  subst h
  intro pins s σ H xs us Q I r h
  obtain ⟨p, ys, rfl, hq, q⟩ := h
  obtain ⟨u, rfl, rx⟩ := vals1 r
  cases rx
  obtain ⟨its, r', pl, hz⟩ := I.list hq
  have hlen := r'.length
  refine call_tuple_list pl.isList (fun h' kp => ?_) (by simp only [List.size_toArray] <;> omega)
  have I1 : Inv X pins σ H { s with heap := h' } := I.kept (t' := s.toks) kp
  have I2 : Inv X pins σ (upd H h'.objs.size (.frz { cls := .type "tuple", data := .seq its.toArray } (.tup ys))) { s with heap := h'.push { cls := .type "tuple", data := .seq its.toArray } } :=
    I1.laid (t' := s.toks) (fun b o e => Heap.get?_push_of_some _ e) (Nat.le_refl _) (show ObjOk X.prog X.w _ _ _ (.frz _ (.tup ys)) from ⟨Heap.get?_push_size h' rfl, hz, its, r', IsTup.new _ _⟩)
  have hf := I1.hok.fresh (Nat.le_refl h'.objs.size)
  exact ⟨.ref h'.objs.size, _, I2, rfl, q _ _ hf (Ex.new hf) ⟨_, upd_same, rfl, rfl⟩⟩
def tBMT (r : V → List V → Hp → VK → Prop) (to : TE) (t : TA) : TE := fun σ H Q => to σ H fun x H1 => (∃ (p : Addr) (ys : List V), x = .ref p ∧ TupZ H1 p ys) ∧ t σ H1 fun xs H2 => r x xs H2 Q
theorem pe_bmT {X : Cx} {o e : Expr} {es : List Expr} {to : TE} {t : TA} {name : Str} {apos cpos : Pos} {id : String} {r : V → List V → Hp → VK → Prop} (slot : Slot "tuple" name id) (hty : typeOf (.builtin id) = pure (.type "method_descriptor")) (hm : MtR X id r) (ho : PE X o to) (ha : PA X (e :: es) t)
    (hbase : attributeBase o name X.env (eval o X.env) = eval o X.env := by rfl)
    (hfew : ((backTo cpos (starEach (e :: es) X.env)).all (fun x => !x.1) && (backToKw cpos (keywordEach [] X.env)).all (fun x => x.1.isSome)
      && decide ((e :: es).length + ([] : List Keyword).length + (if ([] : List Keyword).isEmpty then 0 else 1) < 30)) = true := by rfl)
    (hline : (apos.endLine == cpos.line) = true := by rfl) (hs : starEach (e :: es) X.env = (false, eval e X.env) :: starEach es X.env := by rfl) (hplain : (backTo cpos (starEach es X.env)).any (·.1) = false := by rfl) :
    PE X (.Call (.Attribute o name apos) (e :: es) [] cpos) (tBMT r to t) := by
  refine ⟨fun pins s σ H Q I h => ?_⟩
  refine wpAny_Call_method_late hbase hfew hline rfl (thn (ho.run pins s σ H _ I h) fun v s1 ⟨x, H1, I1, r1, ty, q1⟩ => ?_)
  obtain ⟨p, ys, rfl, ob, hp, hc, hd⟩ := ty
  have r1' := r1
  cases r1
  obtain ⟨g, _⟩ := I1.hok p _ hp
  refine ⟨"tuple", id, PySem.F.plainAttrs_tuple, slot, hty, ⟨ob, g, hc⟩, fun a e => ?_, ?_⟩
  · cases e
    exact ⟨ob, g, hd⟩
  have hA := ha.run cpos pins s1 σ H1 _ I1 q1
  rw [hs] at hA ⊢
  refine Calls.callWith_builtin (by show (false || (backTo cpos (starEach es X.env)).any (·.1)) = false; rw [hplain] <;> rfl) (Calls.evalArgs_plain ?_)
  exact thn hA fun us s2 ⟨vs, H2, I2, r2, q2⟩ => hm pins s2 σ H2 (.ref p) vs _ us Q I2 r1' r2 q2
end L2

-- base: law_k16_partitions_recognized
/-! blocks numbered in the sequence of their first states -/
namespace K03
open PySem L2 Evl OxK
def intV (zs : List Int) : List V := zs.map V.int
theorem ixI_spec {g : Int} : ∀ {l : List Int}, g ∈ l → l[ixI g l]? = some g ∧ ∀ m z, m < ixI g l → l[m]? = some z → z ≠ g
  | [], h => nomatch h
  | a :: r, h => by
    by_cases e : a = g
    · have z : ixI g (a :: r) = 0 := if_pos e
      rw [z]
      exact ⟨by rw [e]; rfl, fun m y hm => absurd hm (by omega)⟩
    · have z : ixI g (a :: r) = ixI g r + 1 := if_neg e
      have hr : g ∈ r := (List.mem_cons.mp h).resolve_left fun q => e q.symm
      obtain ⟨h1, h2⟩ := ixI_spec hr
      rw [z]
      refine ⟨by simpa using h1, fun m y hm hy => ?_⟩
      cases m with
      | zero =>
        cases hy
        exact e
      | succ m => exact h2 m y (by omega) (by simpa using hy)
theorem ixI_lt {g : Int} {l : List Int} (h : g ∈ l) : ixI g l < l.length := (List.getElem?_eq_some_iff.mp (ixI_spec h).1).1
theorem ixI_app {g : Int} : ∀ {l : List Int} (m : List Int), g ∈ l → ixI g (l ++ m) = ixI g l
  | [], _, h => nomatch h
  | a :: r, m, h => by
    show (if a = g then 0 else ixI g (r ++ m) + 1) = (if a = g then 0 else ixI g r + 1)
    by_cases e : a = g
    · rw [if_pos e, if_pos e]
    · rw [if_neg e, if_neg e, ixI_app m ((List.mem_cons.mp h).resolve_left fun q => e q.symm)]
theorem ixI_new {g : Int} : ∀ {l : List Int}, g ∉ l → ixI g (l ++ [g]) = l.length
  | [], _ => if_pos rfl
  | a :: r, h => by
    have e : ¬ a = g := fun q => h (by rw [q]; exact List.mem_cons_self)
    show (if a = g then 0 else ixI g (r ++ [g]) + 1) = r.length + 1
    rw [if_neg e, ixI_new fun q => h (List.mem_cons_of_mem _ q)]
theorem ixI_map {p : Int → Int} {g : Int} : ∀ {l : List Int}, (∀ a ∈ l, p a = p g → a = g) → ixI (p g) (l.map p) = ixI g l
  | [], _ => rfl
  | a :: r, h => by
    have ih := ixI_map (p := p) (g := g) (l := r) fun b hb => h b (List.mem_cons_of_mem _ hb)
    show (if p a = p g then 0 else ixI (p g) (r.map p) + 1) = (if a = g then 0 else ixI g r + 1)
    by_cases e : a = g
    · rw [if_pos e, if_pos (by rw [e])]
    · rw [if_neg e, if_neg fun q => e (h a List.mem_cons_self q), ih]
/-- the different ones, in their sequence -/
def dd : List Int → List Int → List Int
  | acc, [] => acc
  | acc, a :: r => dd (if a ∈ acc then acc else acc ++ [a]) r
def numI (ls : List Int) : List Int := ls.map fun a => (ixI a (dd [] ls) : Int)
theorem dd_mem {a : Int} : ∀ (ls acc : List Int), a ∈ dd acc ls ↔ a ∈ acc ∨ a ∈ ls
  | [], acc => by simp [dd]
  | b :: r, acc => by
    show a ∈ dd (if b ∈ acc then acc else acc ++ [b]) r ↔ _
    rw [dd_mem r]
    by_cases h : b ∈ acc
    · rw [if_pos h, List.mem_cons]
      constructor
      · rintro (q | q)
        · exact .inl q
        · exact .inr (.inr q)
      · rintro (q | q | q)
        · exact .inl q
        · rw [q]; exact .inl h
        · exact .inr q
    · rw [if_neg h]
      simp only [List.mem_append, List.mem_cons, List.not_mem_nil, or_false]
      exact or_assoc
theorem dd_pre : ∀ (ls acc : List Int), ∃ m, dd acc ls = acc ++ m
  | [], acc => ⟨[], (List.append_nil acc).symm⟩
  | b :: r, acc => by
    show ∃ m, dd (if b ∈ acc then acc else acc ++ [b]) r = acc ++ m
    obtain ⟨m, hm⟩ := dd_pre r (if b ∈ acc then acc else acc ++ [b])
    rw [hm]
    by_cases h : b ∈ acc
    · rw [if_pos h]; exact ⟨m, rfl⟩
    · rw [if_neg h]; exact ⟨[b] ++ m, by rw [List.append_assoc]⟩
theorem dd_snoc (a : Int) : ∀ (ls acc : List Int), dd acc (ls ++ [a]) = if a ∈ dd acc ls then dd acc ls else dd acc ls ++ [a]
  | [], acc => rfl
  | b :: r, acc => dd_snoc a r _
theorem dd_len : ∀ (ls acc : List Int), (dd acc ls).length ≤ acc.length + ls.length
  | [], acc => Nat.le_refl _
  | b :: r, acc => by
    show (dd (if b ∈ acc then acc else acc ++ [b]) r).length ≤ _
    have := dd_len r (if b ∈ acc then acc else acc ++ [b])
    by_cases h : b ∈ acc
    · rw [if_pos h] at this ⊢; simp; omega
    · rw [if_neg h] at this ⊢; simp at this ⊢; omega
theorem dd_map {p : Int → Int} : ∀ (ls acc : List Int), (∀ a b, (a ∈ acc ∨ a ∈ ls) → (b ∈ acc ∨ b ∈ ls) → p a = p b → a = b) → dd (acc.map p) (ls.map p) = (dd acc ls).map p
  | [], acc, _ => rfl
  | b :: r, acc, inj => by
    show dd (if p b ∈ acc.map p then acc.map p else acc.map p ++ [p b]) (r.map p) = (dd (if b ∈ acc then acc else acc ++ [b]) r).map p
    by_cases h : b ∈ acc
    · rw [if_pos h, if_pos (List.mem_map.mpr ⟨b, h, rfl⟩)]
      exact dd_map r acc fun x y hx hy => inj x y (hx.imp id (List.mem_cons_of_mem _)) (hy.imp id (List.mem_cons_of_mem _))
    · have h2 : p b ∉ acc.map p := fun q => by
        obtain ⟨c, hc, e⟩ := List.mem_map.mp q
        exact h (by rw [← inj c b (.inl hc) (.inr List.mem_cons_self) e]; exact hc)
      rw [if_neg h, if_neg h2]
      have z : acc.map p ++ [p b] = (acc ++ [b]).map p := by simp
      rw [z]
      refine dd_map r (acc ++ [b]) fun x y hx hy => inj x y ?_ ?_
      · rcases hx with q | q
        · rcases List.mem_append.mp q with q | q
          · exact .inl q
          · simp at q; rw [q]; exact .inr List.mem_cons_self
        · exact .inr (List.mem_cons_of_mem _ q)
      · rcases hy with q | q
        · rcases List.mem_append.mp q with q | q
          · exact .inl q
          · simp at q; rw [q]; exact .inr List.mem_cons_self
        · exact .inr (List.mem_cons_of_mem _ q)
theorem numI_len (ls : List Int) : (numI ls).length = ls.length := by simp [numI]
theorem ixI_inj {l : List Int} {a b : Int} (ha : a ∈ l) (hb : b ∈ l) (e : ixI a l = ixI b l) : a = b := by
  have h1 := (ixI_spec ha).1
  rw [e, (ixI_spec hb).1] at h1
  exact (Option.some.inj h1).symm
theorem numI_num (ls : List Int) : numI (numI ls) = numI ls := by
  have inj : ∀ a b : Int, (a ∈ ([] : List Int) ∨ a ∈ ls) → (b ∈ ([] : List Int) ∨ b ∈ ls) → ((ixI a (dd [] ls) : Int) = (ixI b (dd [] ls) : Int)) → a = b := fun a b ha hb e =>
    ixI_inj ((dd_mem ls []).mpr ha) ((dd_mem ls []).mpr hb) (by omega)
  have e1 : dd [] (ls.map fun a => (ixI a (dd [] ls) : Int)) = (dd [] ls).map fun a => (ixI a (dd [] ls) : Int) := dd_map ls [] inj
  unfold numI
  rw [e1, List.map_map]
  refine List.map_congr_left fun a ha => ?_
  show ((ixI (ixI a (dd [] ls) : Int) ((dd [] ls).map fun a => (ixI a (dd [] ls) : Int)) : Nat) : Int) = _
  rw [ixI_map (p := fun a => (ixI a (dd [] ls) : Int)) fun b hb e => inj b a ((dd_mem ls []).mp hb) (.inr ha) e]
theorem numI_mem {ls : List Int} {z : Int} (h : z ∈ numI ls) : 0 ≤ z ∧ z < ls.length := by
  obtain ⟨a, ha, rfl⟩ := List.mem_map.mp h
  have h1 : ixI a (dd [] ls) < (dd [] ls).length := ixI_lt ((dd_mem ls []).mpr (.inr ha))
  have h2 := dd_len ls []
  simp at h2
  omega
theorem numI_head (a : Int) (r : List Int) : numI (a :: r) = 0 :: r.map fun b => (ixI b (dd [] (a :: r)) : Int) := by
  show ((ixI a (dd [] (a :: r)) : Nat) : Int) :: _ = _
  obtain ⟨m, hm⟩ := dd_pre r [a]
  have z : dd [] (a :: r) = [a] ++ m := hm
  have z2 : ixI a (dd [] (a :: r)) = 0 := by rw [z]; exact if_pos rfl
  rw [z2]
  rfl
theorem dd_nodup : ∀ (ls acc : List Int), (acc ++ ls).Nodup → dd acc ls = acc ++ ls
  | [], acc, _ => (List.append_nil acc).symm
  | b :: r, acc, h => by
    have nb : b ∉ acc := fun q => by
      have := (List.nodup_append.mp h).2.2 b q b List.mem_cons_self
      exact this rfl
    show dd (if b ∈ acc then acc else acc ++ [b]) r = _
    rw [if_neg nb, dd_nodup r (acc ++ [b]) (by rw [List.append_assoc]; exact h), List.append_assoc]
    rfl
def ranI (n : Nat) : List Int := (List.range n).map fun i : Nat => (i : Int)
theorem ranI_nodup (n : Nat) : (ranI n).Nodup := by
  unfold ranI
  rw [List.nodup_iff_pairwise_ne, List.pairwise_map]
  exact (List.nodup_iff_pairwise_ne.mp List.nodup_range).imp fun h q => h (by omega)
theorem numI_ran (n : Nat) : numI (ranI n) = ranI n := by
  have h := dd_nodup (ranI n) [] (by simpa using ranI_nodup n)
  unfold numI
  rw [h]
  have : ∀ a ∈ ranI n, ((ixI a ([] ++ ranI n) : Nat) : Int) = a := fun a ha => by
    rw [List.nil_append]
    obtain ⟨i, hi, rfl⟩ := List.mem_map.mp ha
    have hl := List.mem_range.mp hi
    obtain ⟨h1, h2⟩ := ixI_spec (g := (i : Int)) (l := ranI n) ha
    have h3 := (List.getElem?_eq_some_iff.mp h1).1
    unfold ranI at h1
    rw [List.getElem?_map, List.getElem?_range (by simpa [ranI] using h3)] at h1
    have := Option.some.inj h1
    exact this
  rw [List.map_congr_left this, List.map_id']
/-! ### places in a dict -/
def plcI : Nat → List Int → List (Key × V)
  | _, [] => []
  | k, a :: r => (.inl a, .int (k : Int)) :: plcI (k + 1) r
theorem plcI_snoc {a : Int} : ∀ (l : List Int) (k : Nat), plcI k (l ++ [a]) = plcI k l ++ [(.inl a, .int ((k + l.length : Nat) : Int))]
  | [], k => rfl
  | b :: r, k => by
    show _ :: plcI (k + 1) (r ++ [a]) = _ :: (plcI (k + 1) r ++ _)
    rw [plcI_snoc r (k + 1)]
    have e : k + 1 + r.length = k + (b :: r).length := by simp; omega
    rw [e]
theorem plcI_len : ∀ (l : List Int) (k : Nat), (plcI k l).length = l.length
  | [], _ => rfl
  | _ :: r, k => congrArg Nat.succ (plcI_len r (k + 1))
theorem plcI_val {g : Int} : ∀ (l : List Int) (k : Nat), g ∈ l → valV (plcI k l) (.inl g) = some (.int ((k + ixI g l : Nat) : Int))
  | a :: r, k, h => by
    show valV ((.inl a, .int (k : Int)) :: plcI (k + 1) r) _ = _
    by_cases e : a = g
    · subst e
      rw [valV_pos rfl]
      have z : ixI a (a :: r) = 0 := if_pos rfl
      rw [z]
      rfl
    · have ne : ¬ ((.inl a : Key) = .inl g) := fun z => e (Sum.inl.inj z)
      rw [valV_neg ne, plcI_val r (k + 1) ((List.mem_cons.mp h).resolve_left fun q => e q.symm)]
      have z : ixI g (a :: r) = ixI g r + 1 := if_neg e
      rw [z]
      have e2 : k + 1 + ixI g r = k + (ixI g r + 1) := by omega
      rw [e2]
theorem plcI_no {g : Int} : ∀ (l : List Int) (k : Nat), g ∉ l → valV (plcI k l) (.inl g) = none
  | [], _, _ => rfl
  | a :: r, k, h => by
    show valV ((.inl a, .int (k : Int)) :: plcI (k + 1) r) _ = _
    have ne : ¬ ((.inl a : Key) = .inl g) := fun z => h (by rw [Sum.inl.inj z]; exact List.mem_cons_self)
    rw [valV_neg ne]
    exact plcI_no r (k + 1) fun q => h (List.mem_cons_of_mem _ q)
theorem plcI_put {g : Int} {l : List Int} (h : g ∉ l) : putK (plcI 0 l) (.inl g) (.int (l.length : Int)) = plcI 0 (l ++ [g]) := by
  have z : ((plcI 0 l).any fun kv => decide (kv.1 = (.inl g : Key))) = false := by rw [valV_any, plcI_no l 0 h]; rfl
  unfold putK
  rw [z, plcI_snoc, Nat.zero_add]
  rfl
/-! ### lists of numbers compared -/
def intsP (zs : List Int) : List PyData := zs.map PyData.int
theorem eqv_ints : ∀ a b : List Int, PyData.eqvAll (intsP a) (intsP b) = decide (a = b)
  | [], [] => by simp [intsP, PyData.eqvAll]
  | [], _ :: _ => by simp [intsP, PyData.eqvAll]
  | _ :: _, [] => by simp [intsP, PyData.eqvAll]
  | x :: a, y :: b => by
    have ih := eqv_ints a b
    unfold intsP at ih ⊢
    simp only [List.map_cons, PyData.eqvAll, PyData.eqv, ih]
    rw [Bool.eq_iff_iff]
    simp
theorem lay_ints : ∀ a : List Int, PyData.canLayAll0 (intsP a) = true ∧ PyData.depthAll (intsP a) = 0
  | [] => by simp [intsP, PyData.canLayAll0, PyData.depthAll]
  | x :: a => by
    obtain ⟨h1, h2⟩ := lay_ints a
    unfold intsP at h1 h2 ⊢
    simp only [List.map_cons, PyData.canLayAll0, PyData.canLay0, PyData.depthAll, PyData.depth, h1, h2]
    simp
theorem shaped_ints (a : List Int) : SeqAt.shaped (.list (intsP a)) = true := by
  obtain ⟨h1, h2⟩ := lay_ints a
  unfold SeqAt.shaped
  simp only [PyData.canLay0, PyData.depth, h1, h2]
  simp
theorem dp_ints {K : PySem.W.Frag} {H : Hp} : ∀ zs : List Int, DpAll K H (intV zs) (intsP zs)
  | [] => .nil
  | z :: zs => .cons (.int z) (dp_ints zs)
section
variable {K : PySem.W.Frag} {te ta tb : TE} {σ : L2.St} {H : Hp} {p q : Addr} {zs ys : List Int}
theorem ev_eqI (ha : Ev ta σ H (.ref p)) (hb : Ev tb σ H (.ref q)) (hp : H p = some (.lst (intV zs))) (hq : H q = some (.lst (intV ys))) : Ev (tOp (rEqD K) ta tb) σ H (.bl (decide (zs = ys))) := fun H1 e1 Q k =>
  ha H1 e1 _ fun H2 e2 => hb H2 (e1.trans e2) _ fun H3 e3 => by
    have e := (e1.trans e2).trans e3
    refine ⟨.list (intsP zs), .list (intsP ys), .lst (SqL.of (e _ _ hp)) (dp_ints zs), .lst (SqL.of (e _ _ hq)) (dp_ints ys), shaped_ints _, shaped_ints _, ?_⟩
    have z : PyData.eqv (.list (intsP zs)) (.list (intsP ys)) = decide (zs = ys) := by
      show PyData.eqv (.list _) (.list _) = _
      rw [PyData.eqv]
      exact eqv_ints zs ys
    rw [z]
    exact k H3 (e2.trans e3)
theorem rv_eqII (hp : H p = some (.lst (intV zs))) (hq : H q = some (.lst (intV ys))) : ∀ H1, Ex H H1 → ∀ Q : VK, Q (.bl (decide (zs = ys))) H1 → rEqD K (.ref p) (.ref q) H1 Q := fun H1 e Q k => by
  refine ⟨.list (intsP zs), .list (intsP ys), .lst (SqL.of (e _ _ hp)) (dp_ints zs), .lst (SqL.of (e _ _ hq)) (dp_ints ys), shaped_ints _, shaped_ints _, ?_⟩
  have z : PyData.eqv (.list (intsP zs)) (.list (intsP ys)) = decide (zs = ys) := by
    show PyData.eqv (.list _) (.list _) = _
    rw [PyData.eqv]
    exact eqv_ints zs ys
  rw [z]
  exact k
end
end K03

-- base: law_k16_partitions_recognized
/-! numbered; the first states of blocks -/
namespace K03
open PySem L2 Evl OxK
theorem pe_bmK {X : Cx} {K : PySem.W.Frag} {o e : Expr} {es : List Expr} {to : TE} {t : TA} {name : Str} {apos cpos : Pos} {T id : String} {r : V → List V → Hp → VK → Prop} (pa : PlainAttrs T) (slot : Slot T name id) (hty : typeOf (.builtin id) = pure (.type "method_descriptor")) (hm : MtR X id r) (ho : PE X o to) (ha : PA X (e :: es) t)
    (hbase : attributeBase o name X.env (eval o X.env) = eval o X.env := by rfl)
    (hfew : ((backTo cpos (starEach (e :: es) X.env)).all (fun x => !x.1) && (backToKw cpos (keywordEach [] X.env)).all (fun x => x.1.isSome)
      && decide ((e :: es).length + ([] : List Keyword).length + (if ([] : List Keyword).isEmpty then 0 else 1) < 30)) = true := by rfl)
    (hline : (apos.endLine == cpos.line) = true := by rfl) (hs : starEach (e :: es) X.env = (false, eval e X.env) :: starEach es X.env := by rfl) (hplain : (backTo cpos (starEach es X.env)).any (·.1) = false := by rfl) (hK : X.K = K := by rfl) :
    PE X (.Call (.Attribute o name apos) (e :: es) [] cpos) (tBM K T r to t) := by
  subst hK
  exact pe_bm pa slot hty hm ho ha hbase hfew hline hs hplain
theorem mt_indexK {X : Cx} {K : PySem.W.Frag} (h : X.K = K := by rfl) : MtR X "list.index" (rIndex K) := by
  subst h
  exact mt_index
def Seq (K : PySem.W.Frag) (H : Hp) (a : Addr) (xs : List V) : Prop := H a = some (.lst xs) ∨ TupZ H a xs
theorem Seq.ex {K : PySem.W.Frag} {H H' : Hp} {a : Addr} {xs : List V} (h : Seq K H a xs) (e : Ex H H') : Seq K H' a xs := h.imp (e _ _) (fun h => h.ex e)
theorem Seq.or {K : PySem.W.Frag} {H : Hp} {a : Addr} {xs : List V} (h : Seq K H a xs) : SqL K H a xs ∨ SqT K H a xs := h.imp SqL.of TupZ.sq
def spNb (K : PySem.W.Frag) : Sp := fun vs H Q _ => ∃ (a : Addr) (zs : List Int), vs = [.ref a] ∧ Seq K H a (intV zs) ∧ zs.length ≤ 100 ∧ ∀ p H', H p = none → Ex H H' → H' p = some (.lst (intV (numI zs))) → Q (.ref p) H'
def spFst (K : PySem.W.Frag) : Sp := fun vs H Q _ => ∃ (a : Addr) (zs : List Int), vs = [.ref a] ∧ Seq K H a (intV zs) ∧ zs.length ≤ 100 ∧ ∀ p H', H p = none → Ex H H' → H' p = some (.lst (intV (zs.map fun z => (ixI z zs : Int)))) → Q (.ref p) H'
section
variable {K : PySem.W.Frag} {te ta tb tl tr : TE} {σ : L2.St} {H : Hp} {a : Addr} {zs : List Int} {xs : List V} {g z : Int} {j : Nat} {vs : List Nat}
/-- over a list or a tuple of numbers, item by item -/
theorem el_seqI (f : Nat → V) (ht : Ev tl σ H (.ref a)) (hs : Seq K H a (intV zs)) (few : zs.length ≤ 100) (hw : ∀ x, wipe ((wipe σ vs).set j (some x)) vs = wipe σ vs)
    (it : ∀ i z H1, Ex H H1 → zs[i]? = some z → Ev te ((wipe σ vs).set j (some (.int z))) H1 (f i)) : EvL (tLc (fun σ H R => iList K tl σ H R ∨ iTup K tl σ H R) (gName j) tYes te vs) σ H ((List.range zs.length).map f) := by
  have len : (intV zs).length = zs.length := by simp [intV]
  have item : ∀ (i : Nat) (y : V) (H1 : Hp), Ex H H1 → i < zs.length → yPl (intV zs) i y H1 H1 → Ev te ((wipe σ vs).set j (some y)) H1 (f i) := by
    rintro i y H1 e1 hi ⟨_, hy⟩
    obtain ⟨z, hz⟩ : ∃ z, zs[i]? = some z := ⟨_, List.getElem?_eq_getElem hi⟩
    have ey : y = .int z := by
      unfold intV at hy
      rw [List.getElem?_map, hz] at hy
      exact (Option.some.inj hy).symm
    rw [ey]
    exact it i z H1 e1 hz
  refine lc_vals (yl := yPl (intV zs)) f (fun H1 e1 R r => ?_) few (fun _ _ _ _ h => h.1) hw item
  rcases hs with h | h
  · exact .inl (ht H1 e1 _ fun H2 e2 => ⟨a, rfl, ⟨_, SqL.of ((e1.trans e2) _ _ h)⟩, r _ H2 e2 (by have := wk_l (K := K) (SqL.of ((e1.trans e2) _ _ h)); rw [len] at this; exact this)⟩)
  · exact .inr (ht H1 e1 _ fun H2 e2 => ⟨a, rfl, ⟨_, (h.ex (e1.trans e2)).sq⟩, r _ H2 e2 (by have := wk_t (K := K) (h.ex (e1.trans e2)).sq; rw [len] at this; exact this)⟩)
theorem el_seqV (f : Nat → V) (ht : Ev tl σ H (.ref a)) (hs : Seq K H a xs) (few : xs.length ≤ 100) (hw : ∀ x, wipe ((wipe σ vs).set j (some x)) vs = wipe σ vs)
    (it : ∀ i y H1, Ex H H1 → xs[i]? = some y → Ev te ((wipe σ vs).set j (some y)) H1 (f i)) : EvL (tLc (fun σ H R => iList K tl σ H R ∨ iTup K tl σ H R) (gName j) tYes te vs) σ H ((List.range xs.length).map f) := by
  refine lc_vals (yl := yPl xs) f (fun H1 e1 R r => ?_) few (fun _ _ _ _ h => h.1) hw (fun i y H1 e1 hi h => it i y H1 e1 h.2)
  rcases hs with h | h
  · exact .inl (ht H1 e1 _ fun H2 e2 => ⟨a, rfl, ⟨_, SqL.of ((e1.trans e2) _ _ h)⟩, r _ H2 e2 (wk_l (K := K) (SqL.of ((e1.trans e2) _ _ h)))⟩)
  · exact .inr (ht H1 e1 _ fun H2 e2 => ⟨a, rfl, ⟨_, (h.ex (e1.trans e2)).sq⟩, r _ H2 e2 (wk_t (K := K) (h.ex (e1.trans e2)).sq)⟩)
theorem ev_allF {n : Nat} {f : Nat → Bool} (h : EvL te σ H ((List.range n).map fun i => V.bl (f i))) : Ev (tCB (rAll K) (tCons te tNil)) σ H (.bl ((List.range n).all f)) := fun H1 e Q q =>
  h H1 e _ fun p H2 _ e2 h2 => ⟨p, (List.range n).map f, rfl, SqL.of (by rw [h2, List.map_map]; rfl), by
    have z : ((List.range n).map f).all id = (List.range n).all f := by rw [List.all_map]; rfl
    rw [z]
    exact q H2 e2⟩
theorem el_enum {j2 : Nat} (f : Nat → V) (ht : EvL tl σ H xs) (few : xs.length ≤ 100) (hw : ∀ x y, wipe (((wipe σ vs).set j (some x)).set j2 (some y)) vs = wipe σ vs)
    (it : ∀ (i : Nat) y H1, Ex H H1 → xs[i]? = some y → Ev te (((wipe σ vs).set j (some (.int (i : Int)))).set j2 (some y)) H1 (f i)) : EvL (tLc (iEnum K (tCons tl tNil)) (gTup K 2 (gCons (gName j) (gCons (gName j2) gNil))) tYes te vs) σ H ((List.range xs.length).map f) := by
  intro H1 e1 Q q
  refine ht H1 e1 _ fun p H2 hp e2 hp2 => ⟨p, xs, rfl, SqL.of hp2, fun D hD => ?_⟩
  have wk := wk_el (SqL.of (K := K) hp2)
  refine lc_any (J := Ite K p) (n := xs.length) (fun i H' => Ex H2 H' ∧ H' D = some (.lst ((List.range i).map f))) ⟨Ex.new hD, upd_same⟩ (fun i H' hi p => wk.go i H' p.1 hi) (fun H' p => wk.stop H' p.1) ?_ (fun H' p => q D H' (fresh_back e2 hD) (e2.trans p.1) p.2)
  rintro i H3 y H4 hi ⟨e3, hDl⟩ yl
  obtain ⟨T', z, rfl, hT, rfl, hz⟩ := wk.yld i H3 y H4 e3 hi yl
  refine ⟨T', _, rfl, SqT.of upd_same, rfl, _, _, rfl, _, _, rfl, rfl, hw _ _, tt_yes ?_⟩
  have e4 : Ex H2 (upd H3 T' (.tup [.int (i : Int), z])) := e3.trans (Ex.new hT)
  refine it i z _ ((e1.trans e2).trans e4) hz _ (Ex.refl _) _ fun H5 e5 => ?_
  refine ⟨_, e5 _ _ ((Ex.new hT) _ _ hDl), sz_lt (by simp; omega), Ex.mut (e4.trans e5) hD, ?_⟩
  rw [upd_same, List.range_succ]
  simp
theorem or_seqI {R : It → Hp → Prop} {H0 : Hp} (ht : ∀ Q : VK, Q (.ref a) H → tl σ H Q) (e : Ex H0 H) (hs : Seq K H0 a xs) (k : ∀ J, Wk J H0 xs.length (yPl xs) → R J H) : iList K tl σ H R ∨ iTup K tl σ H R := by
  rcases hs with h | h
  · exact .inl (ht _ ⟨a, rfl, ⟨_, SqL.of (e _ _ h)⟩, k _ (wk_l (K := K) (SqL.of h))⟩)
  · exact .inr (ht _ ⟨a, rfl, ⟨_, (h.ex e).sq⟩, k _ (wk_t (K := K) h.sq)⟩)
theorem at_int {zs : List Int} {i : Nat} {y : V} (h : (intV zs)[i]? = some y) : ∃ z, zs[i]? = some z ∧ y = .int z := by
  unfold intV at h
  rw [List.getElem?_map] at h
  cases e : zs[i]? with
  | none => rw [e] at h; cases h
  | some z =>
    rw [e] at h
    exact ⟨z, rfl, (Option.some.inj h).symm⟩
/-- s.index(z) -/
theorem ev_indexI (h : Ev te σ H (.ref a)) (hb : Ev tb σ H (.int z)) (hs : Seq K H a (intV zs)) (hz : z ∈ zs) : Ev (tOrE (tBM K "list" (rIndex K) te (tCons tb tNil)) (tBMT (rIndexTI K) te (tCons tb tNil))) σ H (.int (ixI z zs : Int)) := fun H1 e1 Q q => by
  rcases hs with hs | hs
  · refine .inl (h H1 e1 _ fun H2 e2 => ⟨.inl ⟨rfl, _, SqL.of (e2 _ _ (e1 _ _ hs))⟩, hb H2 (e1.trans e2) _ fun H3 e3 => ?_⟩)
    have e := (e1.trans e2).trans e3
    refine ⟨a, intV zs, .int z, ixI z zs, .int z, rfl, rfl, SqL.of (e _ _ hs), rfl, ?_, ?_, ?_, fun k z' hk hz' => ?_, q H3 (e2.trans e3)⟩
    · unfold intV
      rw [List.all_map]
      exact List.all_eq_true.mpr fun _ _ => rfl
    · unfold intV
      rw [List.getElem?_map, (ixI_spec hz).1]
      rfl
    · show decide (z = z) = true
      simp
    · unfold intV at hz'
      rw [List.getElem?_map] at hz'
      cases e4 : zs[k]? with
      | none => rw [e4] at hz'; cases hz'
      | some y =>
        rw [e4] at hz'
        cases hz'
        have ne := (ixI_spec hz).2 k y hk e4
        show decide (y = z) = false
        simp
        exact ne
  · refine .inr (h H1 e1 _ fun H2 e2 => ⟨?_, hb H2 (e1.trans e2) _ fun H3 e3 => ⟨a, zs, z, rfl, rfl, (hs.ex ((e1.trans e2).trans e3)).sq, hz, q H3 (e2.trans e3)⟩⟩)
    exact ⟨a, _, rfl, hs.ex (e1.trans e2)⟩
/-- s[i] -/
theorem ev_atI {i : Nat} {y : V} (h : Ev te σ H (.ref a)) (hb : Ev tb σ H (.int (i : Int))) (hs : Seq K H a xs) (hy : xs[i]? = some y) : Ev (tOrE (tOp (rIxL K) te tb) (tOp (rIxT K) te tb)) σ H y := fun H1 e1 Q q => by
  rcases hs with hs | hs
  · exact .inl (ev_op h hb (rv_ixL (SqL.of hs) (atI_nat hy)) H1 e1 Q q)
  · exact .inr (ev_op h hb (rv_ixT hs.sq (atI_nat hy)) H1 e1 Q q)
end
section
variable {P : Program} {w : World} {K : PySem.W.Frag} {mg : Str → Option Value} {base : Heap} {f : Addr} {fd : FuncData}
end
end K03

/-! what a law reads and writes beside its bag: data told of the heap without the bag -/
namespace K03
open PySem L2 L2H LamX LamV Evl OxK
section
variable {K : PySem.W.Frag} {te ta tb : TE} {tr : TA} {σ : L2.St} {H H' H1 H2 : Hp} {b l a : Addr} {ns : List Int} {v : V} {d d2 : Dt} {ds es : List Dt} {n i : Nat}
theorem dl_ex : Ex (dl b H) H := fun _ _ h => (dl_some h).2
theorem dl_up (e : Ex H H') : Ex (dl b H) (dl b H') := fun _ _ h => dl_of (dl_some h).1 (e _ _ (dl_some h).2)
theorem dl_exB (e : ExB b H H') : Ex (dl b H) (dl b H') := fun _ _ h => dl_of (dl_some h).1 (e _ _ (dl_some h).1 (dl_some h).2)
theorem dl_but (e : But b H H') : Ex (dl b H) (dl b H') := fun c o h => dl_of (dl_some h).1 (by rw [e c (dl_some h).1]; exact (dl_some h).2)
theorem exB_dl : ExB b H (dl b H) := fun _ _ n h => dl_of n h
theorem exB_of (e : Ex (dl b H) (dl b H')) : ExB b H H' := fun _ _ n h => (dl_some (e _ _ (dl_of n h))).2
theorem bag_some (B : Bag H b l ns) : H b ≠ none := by
  obtain ⟨_, _, _, i, j, s, h, _⟩ := B
  rw [h]
  exact fun z => nomatch z
theorem nw_dl (nb : H b ≠ none) : Ex (nw H H') (dl b H') := fun c o h => by
  obtain ⟨h1, h2⟩ := nw_some h
  exact dl_of (fun z => nb (by rw [← z]; exact h1)) h2
theorem dl_new {p : Addr} {o : HO} (nb : H b ≠ none) (hp : H p = none) : dl b (upd H p o) p = some o := dl_of (fun z => nb (by rw [← z]; exact hp)) upd_same
theorem up_ne (nb : H b ≠ none) (e : Ex H H') : H' b ≠ none := by
  cases h : H b with
  | none => exact absurd h nb
  | some o => rw [e _ _ h]; exact fun z => nomatch z
/-- data that an expression makes or reads, beside the bag at b -/
def VD (b : Addr) (te : TE) (σ : L2.St) (H : Hp) (n : Nat) (d : Dt) : Prop := ∀ H1, Ex (dl b H) (dl b H1) → H1 b ≠ none → ∀ Q : VK, (∀ v H2, Ex H1 H2 → Has (dl b H2) n v d → Q v H2) → te σ H1 Q
def VDA (b : Addr) (tr : TA) (σ : L2.St) (H : Hp) (n : Nat) (ds : List Dt) : Prop := ∀ H1, Ex (dl b H) (dl b H1) → H1 b ≠ none → ∀ Q : List V → Hp → Prop, (∀ vs H2, Ex H1 H2 → HasL (dl b H2) n vs ds → Q vs H2) → tr σ H1 Q
theorem VD.ex (h : VD b te σ H n d) (e : Ex (dl b H) (dl b H')) : VD b te σ H' n d := fun H1 e1 => h H1 (e.trans e1)
theorem VD.up (h : VD b te σ H n d) : VD b te σ H (n + 1) d := fun H1 e1 nb Q q => h H1 e1 nb _ fun v H2 e2 hv => q v H2 e2 hv.up
theorem vd_var (hv : σ[i]? = some (some v)) (h : Has (dl b H) n v d) : VD b (tVar i) σ H n d := fun H1 e1 _ Q q => ⟨v, hv, q v H1 (Ex.refl _) (h.ex e1)⟩
theorem vd_ev (h : Ev te σ (dl b H) v) (k : Has (dl b H) n v d) : VD b te σ H n d := fun H1 e1 nb Q q => h H1 (e1.trans dl_ex) _ fun H2 e2 => q v H2 e2 (k.ex (e1.trans (dl_up e2)))
theorem vd_f (h : Ev te σ (dl b H) v) (f : Flat v) : VD b te σ H n (.f v) := vd_ev h (has_flat f n)
theorem vda_nil : VDA b tNil σ H n [] := fun H1 _ _ Q q => q [] H1 (Ex.refl _) True.intro
theorem vda_cons (h : VD b te σ H n d) (hr : VDA b tr σ H n ds) : VDA b (tCons te tr) σ H n (d :: ds) := fun H1 e1 nb Q q =>
  h H1 e1 nb _ fun v H2 e2 h2 => hr H2 (e1.trans (dl_up e2)) (up_ne nb e2) _ fun vs H3 e3 h3 => q (v :: vs) H3 (e2.trans e3) ⟨h2.ex (dl_up e3), h3⟩
theorem has_lst {p : Addr} {vs : List V} (h : HasL H n vs ds) (hp : H p = some (.lst vs)) (few : ds.length ≤ 1000) : Has H (n + 1) (.ref p) (.l ds) := has_of h hp (by rw [(hasl_at h).1]; exact few)
theorem has_tup {p : Addr} {vs : List V} (h : HasL H n vs ds) (hp : H p = some (.tup vs)) (few : ds.length ≤ 1000) : Has H (n + 1) (.ref p) (.t ds) := .inr ⟨p, vs, ds, rfl, .inr ⟨hp, rfl⟩, (hasl_at h).1, by rw [(hasl_at h).1]; exact few, (hasl_at h).2⟩
theorem vd_lst (h : VDA b tr σ H n ds) (few : ds.length ≤ 1000 := by decide) : VD b (tLst tr) σ H (n + 1) (.l ds) := fun H1 e1 nb Q q => h H1 e1 nb _ fun vs H2 e2 hv => by
  have l := (hasl_at hv).1
  exact ⟨sz_of (by omega), fun p hp => q _ _ (e2.trans (Ex.new hp)) (has_lst (hasl_ex (dl_up (Ex.new hp)) hv) (dl_new (up_ne nb e2) hp) few)⟩
theorem vd_tup (h : VDA b tr σ H n ds) (few : ds.length ≤ 1000 := by decide) : VD b (tTup tr) σ H (n + 1) (.t ds) := fun H1 e1 nb Q q => h H1 e1 nb _ fun vs H2 e2 hv => by
  have l := (hasl_at hv).1
  exact ⟨sz_of (by omega), fun p hp => q _ _ (e2.trans (Ex.new hp)) (has_tup (hasl_ex (dl_up (Ex.new hp)) hv) (dl_new (up_ne nb e2) hp) few)⟩
/-- a list's (a tuple's) items -/
theorem has_l (h : Has H (n + 1) v (.l ds)) : ∃ (p : Addr) (vs : List V), v = .ref p ∧ H p = some (.lst vs) ∧ HasL H n vs ds ∧ ds.length ≤ 1000 := by
  rcases h with ⟨_, z⟩ | ⟨p, vs, es, rfl, ⟨hp, hd⟩ | ⟨hp, hd⟩, hl, few, hi⟩
  · cases z
  · cases hd
    refine ⟨p, vs, rfl, hp, ?_, by omega⟩
    clear hp few
    induction vs generalizing ds with
    | nil => cases ds with
      | nil => exact True.intro
      | cons => simp at hl
    | cons y vs ih => cases ds with
      | nil => simp at hl
      | cons d ds => exact ⟨hi 0 y d rfl rfl, ih (by simpa using hl) fun i x y h1 h2 => hi (i + 1) x y (by simpa using h1) (by simpa using h2)⟩
  · cases hd
theorem hasl_take {m : Nat} : ∀ {vs : List V} {ds : List Dt} {m : Nat}, HasL H n vs ds → HasL H n (vs.take m) (ds.take m)
  | [], [], _, _ => by simp [HasL]
  | _ :: _, _ :: _, 0, _ => True.intro
  | _ :: _, _ :: _, m + 1, h => ⟨h.1, hasl_take (m := m) h.2⟩
  | [], _ :: _, _, h => h.elim
  | _ :: _, [], _, h => h.elim
theorem hasl_drop : ∀ {vs : List V} {ds : List Dt} {m : Nat}, HasL H n vs ds → HasL H n (vs.drop m) (ds.drop m)
  | _, _, 0, h => h
  | [], [], _ + 1, _ => True.intro
  | _ :: _, _ :: _, m + 1, h => hasl_drop (m := m) h.2
  | [], _ :: _, _ + 1, h => h.elim
  | _ :: _, [], _ + 1, h => h.elim
theorem hasl_rep {m : Nat} {vs : List V} {ds : List Dt} (h : HasL H n vs ds) : HasL H n (List.replicate m vs).flatten (List.replicate m ds).flatten := by
  induction m with
  | zero => exact True.intro
  | succ m ih =>
    rw [List.replicate_succ, List.replicate_succ, List.flatten_cons, List.flatten_cons]
    exact hasl_app h ih
theorem vd_cat (ha : VD b ta σ H (n + 1) (.l ds)) (hb : VD b tb σ H (n + 1) (.l es)) (few : ds.length + es.length ≤ 1000) : VD b (tOp rCat ta tb) σ H (n + 1) (.l (ds ++ es)) := fun H1 e1 nb Q q =>
  ha H1 e1 nb _ fun v H2 e2 h2 => hb H2 (e1.trans (dl_up e2)) (up_ne nb e2) _ fun u H3 e3 h3 => by
    obtain ⟨p, vs, rfl, hp, hv, _⟩ := has_l (h2.ex (dl_up e3))
    obtain ⟨r, us, rfl, hr, hu, _⟩ := has_l h3
    have l1 := (hasl_at hv).1
    have l2 := (hasl_at hu).1
    exact ⟨p, r, vs, us, rfl, rfl, dl_ex _ _ hp, dl_ex _ _ hr, sz_of (by omega), fun x hx => q _ _ ((e2.trans e3).trans (Ex.new hx)) (has_lst (hasl_ex (dl_up (Ex.new hx)) (hasl_app hv hu)) (dl_new (up_ne nb (e2.trans e3)) hx) (by rw [List.length_append]; exact few))⟩
theorem vd_rep {k : Int} (ha : VD b ta σ H (n + 1) (.l ds)) (hb : Ev tb σ (dl b H) (.int k)) (k0 : 0 ≤ k) (few : ds.length * k.toNat ≤ 1000) (k1 : k ≤ 1000) : VD b (tOp rRep ta tb) σ H (n + 1) (.l (List.replicate k.toNat ds).flatten) := fun H1 e1 nb Q q =>
  ha H1 e1 nb _ fun v H2 e2 h2 => hb H2 ((e1.trans (dl_up e2)).trans dl_ex) _ fun H3 e3 => by
    obtain ⟨p, vs, rfl, hp, hv, _⟩ := has_l (h2.ex (dl_up e3))
    have l1 := (hasl_at hv).1
    exact ⟨p, k, vs, rfl, rfl, dl_ex _ _ hp, by omega, by omega, by rw [l1]; exact sz_of (Nat.le_trans few (by decide)), fun x hx => q _ _ ((e2.trans e3).trans (Ex.new hx)) (has_lst (hasl_ex (dl_up (Ex.new hx)) (hasl_rep hv)) (dl_new (up_ne nb (e2.trans e3)) hx) (by simp; rw [Nat.mul_comm]; exact few))⟩
/-- a draw out of new things -/
theorem vd_of {j : Nat} (B : Bag H b l ns) (hj : σ[j]? = some (some (.ref b))) (h : VDA b tr σ H n ds) (ne : 0 < ds.length) (few : ds.length ≤ 1000) {Q : VK}
    (q : ∀ (kk : Nat) (v : V) (d : Dt) (H2 : Hp), ds[kk]? = some d → Has (dl b H2) n v d → Bag H2 b l ns → Ex (dl b H) (dl b H2) → Q v H2) : tCall (spOf K) [] E0 (tCons (tVar j) (tCons (tLst tr) tNil)) σ H Q :=
  ⟨_, hj, h H (Ex.refl _) (bag_some B) _ fun vs H2 e2 hvs => ⟨sz_of (by have := (hasl_at hvs).1; omega), fun p hp => by
    have len := (hasl_at hvs).1
    have B2 := bag_ex B e2
    have pb : p ≠ b := fun z => bag_some B2 (by rw [← z]; exact hp)
    have e3 := Ex.new (o := .lst vs) hp
    refine ⟨b, l, p, ns, vs, rfl, SqL.of upd_same, by omega, by omega, pb, (fun H' hB => SqL.of (by rw [hB p pb, upd_same])), bag_ex B2 e3, fun kk v H4 hk B4 h4 => ?_⟩
    obtain ⟨d, hd⟩ : ∃ d, ds[kk]? = some d := ⟨_, List.getElem?_eq_getElem (by rw [← len]; exact (List.getElem?_eq_some_iff.mp hk).1)⟩
    exact q kk v d H4 hd ((((hasl_at hvs).2 kk v d hk hd).ex (dl_up e3)).ex (dl_but h4)) B4 ((dl_up (e2.trans e3)).trans (dl_but h4))⟩⟩
/-- a number drawn -/
theorem vd_pull {m : Int} {j : Nat} (B : Bag H b l ns) (hj : σ[j]? = some (some (.ref b))) (h : Ev te σ (dl b H) (.int m)) (m0 : 0 < m) (m1 : m < 1073741824) {Q : VK}
    (q : ∀ (r : Int) (H2 : Hp), 0 ≤ r → r < m → Bag H2 b l ns → Ex (dl b H) (dl b H2) → Q (.int r) H2) : tCall spPull [] E0 (tCons (tVar j) (tCons te tNil)) σ H Q :=
  ⟨_, hj, h H dl_ex _ fun H1 e1 => ⟨b, l, ns, m, rfl, m0, m1, bag_ex B e1, fun r H2 r0 r1 B2 h2 => q r H2 r0 r1 B2 ((dl_up e1).trans (dl_but h2))⟩⟩
/-- _law_same of two data -/
theorem vd_same {c : Bool} (ha : VD b ta σ H n d) (hb : VD b tb σ H n d2) (h : c = true ↔ d = d2) (nb : H b ≠ none) {Q : VK} (q : ∀ H2, Ex H H2 → Q (.bl c) H2) : tCall (spSame n) [] E0 (tCons ta (tCons tb tNil)) σ H Q :=
  ha H (Ex.refl _) nb _ fun v H2 e2 hv => hb H2 (dl_up e2) (up_ne nb e2) _ fun w H3 e3 hw => ⟨v, w, d, d2, rfl, (hv.ex (dl_up e3)).ex dl_ex, hw.ex dl_ex, fun b2 H4 hb2 e4 => by
    have z : b2 = c := by rw [Bool.eq_iff_iff]; exact hb2.trans h.symm
    subst z
    exact q H4 ((e2.trans e3).trans e4)⟩
end
/-! ### the answers of lambdas -/
section
variable {X : Cx} {C1 C2 C3 b : Addr} {kk n i : Nat} {σ : L2.St} {H H' : Hp} {ds : List Dt}
theorem AskEv.ex {K : PySem.W.Frag} {H0 H1 : Hp} {x : Ask} {d : Dt} (h : AskEv K C1 C2 C3 H0 n x d) (e : Ex H0 H1) : AskEv K C1 C2 C3 H1 n x d := fun H' Q' e' => h H' Q' (e.trans e')
/-- what the caller knows of its own lambdas over the base -/
abbrev OwnR (X : Cx) (kk : Nat) (σ : L2.St) (base : Heap) : Prop := ∀ {params : Arguments} {body : Expr} {scope : Scope} {te : XK → TE} {c' : Addr} {dV : Value} {f : Addr}, LamTold X kk params body scope te → LamRunB X.prog X.w X.K X.mg base (kk + 1) f (mkLF X params body scope c' dV) (fun E H' Q' => te E σ H' Q')
theorem hasl_nw {K : PySem.W.Frag} {D : Addr} {H1 H2 : Hp} {vs : List V} (nb : H1 b ≠ none) (h : HasL (dl D (nw H1 H2)) n vs ds) : HasL (dl b H2) n vs ds := hasl_ex (fun c o z => nw_dl nb c o (dl_some z).2) h
theorem vd_tries {asks : List Ask} {a : Addr} (hi : σ[i]? = some (some (.ref a))) (ha : (dl b H) a = some (.lst (asks.map fun x => V.ref x.f))) (R : ∀ base, OwnR X kk σ base → ∀ x ∈ asks, AskR X.prog X.w X.K X.mg base (kk + 1) x) (len : asks.length = ds.length) (few : ds.length ≤ 1000)
    (h : ∀ (i : Nat) (x : Ask) (d : Dt), asks[i]? = some x → ds[i]? = some d → AskEv X.K C1 C2 C3 (dl b H) n x d) : VD b (tCallB X kk (spTries X.prog X.w X.K X.mg C1 C2 C3 (kk + 1)) [] E0 (tCons (tVar i) tNil)) σ H (n + 1) (.l ds) := fun H1 e1 nb Q q =>
  ⟨_, hi, fun base hL => ⟨a, asks, rfl, SqL.of (dl_ex _ _ (e1 _ _ ha)), R base hL, fun D hD => by
    refine chain_ev (H0 := H1) hD (fun H' e' => SqL.of (e' _ _ (dl_ex _ _ (e1 _ _ ha)))) asks ds [] [] _ len (by simpa using len ▸ few) (fun i x d h1 h2 => (h i x d h1 h2).ex (e1.trans dl_ex)) (Ex.new hD) upd_same True.intro fun H' acc' e' h1 h2 => q _ H' e' ?_
    exact has_lst (hasl_nw (K := X.K) nb (by simpa using h2)) (dl_of (fun z => nb (by rw [← z]; exact hD)) h1) few⟩⟩
theorem vd_try {x : Ask} {te : TE} {d : Dt} (hx : ∀ H1, Ex (dl b H) (dl b H1) → H1 b ≠ none → ∀ Q : VK, (∀ (x : Ask) H2, Ex H1 H2 → (∀ base, OwnR X kk σ base → AskR X.prog X.w X.K X.mg base (kk + 1) x) → AskEv X.K C1 C2 C3 H2 n x d → Q (.ref x.f) H2) → te σ H1 Q) :
    VD b (tCallB X kk (spTry X.prog X.w X.K X.mg C1 C2 C3 (kk + 1)) [] E0 (tCons te tNil)) σ H n d := fun H1 e1 nb Q q =>
  hx H1 e1 nb _ fun x H2 e2 R A => fun base hL => ⟨x, rfl, R base hL, A H2 Q (Ex.refl _) fun v H3 e3 hv => q v H3 (e2.trans e3) (hv.ex (nw_dl (up_ne nb e2)))⟩
end
end K03

/-! data beside the bag: indexes, slices; lambdas that a law lists -/
namespace K03
open PySem L2 L2H LamX LamV Evl OxK
theorem Has.extN {H H' : Hp} (e : ExtN H H') : ∀ {n : Nat} {v : V} {d : Dt}, Has H n v d → Has H' n v d
  | 0, v, d, h => (show Flat v ∧ d = .f v from h)
  | n + 1, _, _, h => by
    rcases h with h | ⟨a, vs, ds, r, hk, hl, hb, hi⟩
    · exact .inl h
    · refine .inr ⟨a, vs, ds, r, ?_, hl, hb, fun i x y h1 h2 => Has.extN e (hi i x y h1 h2)⟩
      rcases hk with ⟨h1, h2⟩ | ⟨h1, h2⟩
      · exact .inl ⟨e _ _ h1 (fun _ z => nomatch z), h2⟩
      · exact .inr ⟨e _ _ h1 (fun _ z => nomatch z), h2⟩
section
variable {K : PySem.W.Frag} {te ta tb : TE} {tr : TA} {σ : L2.St} {H H' H1 H2 : Hp} {b l a : Addr} {ns : List Int} {v : V} {d d2 : Dt} {ds es : List Dt} {n i : Nat}
theorem dl_extN (e : ExtN H H') : ExtN (dl b H) (dl b H') := fun c o h n => dl_of (dl_some h).1 (e _ _ (dl_some h).2 n)
theorem bag_extN (B : Bag H b l ns) (e : ExtN H H') : Bag H' b l ns := by
  obtain ⟨h1, h2, h3, i, j, s, h4, h5⟩ := B
  exact ⟨h1, e _ _ h2 (fun _ z => nomatch z), h3, i, j, s, e _ _ h4 (fun _ z => nomatch z), h5⟩
theorem has_t (h : Has H (n + 1) v (.t ds)) : ∃ (p : Addr) (vs : List V), v = .ref p ∧ H p = some (.tup vs) ∧ HasL H n vs ds ∧ ds.length ≤ 1000 := by
  rcases h with ⟨_, z⟩ | ⟨p, vs, es, rfl, ⟨hp, hd⟩ | ⟨hp, hd⟩, hl, few, hi⟩
  · cases z
  · cases hd
  · cases hd
    refine ⟨p, vs, rfl, hp, ?_, by omega⟩
    clear hp few
    induction vs generalizing ds with
    | nil => cases ds with
      | nil => exact True.intro
      | cons => simp at hl
    | cons y vs ih => cases ds with
      | nil => simp at hl
      | cons d ds => exact ⟨hi 0 y d rfl rfl, ih (by simpa using hl) fun i x y h1 h2 => hi (i + 1) x y (by simpa using h1) (by simpa using h2)⟩
theorem hasl_get : ∀ {vs : List V} {ds : List Dt} {i : Nat} {d : Dt}, HasL H n vs ds → ds[i]? = some d → ∃ v, vs[i]? = some v ∧ Has H n v d
  | [], [], _, _, _, h => nomatch h
  | v :: _, _ :: _, 0, _, h, e => by cases e; exact ⟨v, rfl, h.1⟩
  | _ :: _, _ :: _, i + 1, _, h, e => by
    obtain ⟨v, h1, h2⟩ := hasl_get (i := i) h.2 (by simpa using e)
    exact ⟨v, by simpa using h1, h2⟩
  | [], _ :: _, _, _, h, _ => h.elim
  | _ :: _, [], _, _, h, _ => h.elim
def cutD (xs : List Dt) (lo hi : Option Int) : List Dt := (xs.drop (HT.sIx xs.length 0 lo)).take (HT.sIx xs.length xs.length hi - HT.sIx xs.length 0 lo)
theorem cutD_lo (ds : List Dt) (k : Nat) : cutD ds (some (k : Int)) none = ds.drop k := by
  unfold cutD
  have e : HT.sIx ds.length 0 (some ((k : Nat) : Int)) = min k ds.length := HT.sIx_nat _ _ k
  have e2 : HT.sIx ds.length ds.length none = ds.length := rfl
  rw [e, e2, List.take_of_length_le (by rw [List.length_drop]; omega)]
  by_cases h : k ≤ ds.length
  · rw [Nat.min_eq_left h]
  · rw [Nat.min_eq_right (by omega), List.drop_length, List.drop_eq_nil_of_le (by omega)]
theorem cutD_hi (ds : List Dt) (k : Nat) : cutD ds none (some (k : Int)) = ds.take k := by
  unfold cutD
  have e : HT.sIx ds.length ds.length (some ((k : Nat) : Int)) = min k ds.length := HT.sIx_nat _ _ k
  have e2 : HT.sIx ds.length 0 none = 0 := rfl
  rw [e, e2, List.drop_zero, Nat.sub_zero]
  by_cases h : k ≤ ds.length
  · rw [Nat.min_eq_left h]
  · rw [Nat.min_eq_right (by omega), List.take_length, List.take_of_length_le (by omega)]
theorem vd_ixT {z : Int} (h : VD b ta σ H (n + 1) (.t ds)) (hb : Ev tb σ (dl b H) (.int z)) (hz : z = (i : Int)) (hd : ds[i]? = some d) : VD b (tOp (rIxT K) ta tb) σ H n d := fun H1 e1 nb Q q =>
  h H1 e1 nb _ fun v H2 e2 h2 => hb H2 ((e1.trans (dl_up e2)).trans dl_ex) _ fun H3 e3 => by
    obtain ⟨p, vs, rfl, hp, hv, _⟩ := has_t (h2.ex (dl_up e3))
    obtain ⟨x, hx, hh⟩ := hasl_get hv hd
    subst hz
    exact ⟨p, vs, _, x, rfl, rfl, SqT.of (dl_ex _ _ hp), atI_nat hx, q x H3 (e2.trans e3) hh⟩
theorem vd_ixL {z : Int} (h : VD b ta σ H (n + 1) (.l ds)) (hb : Ev tb σ (dl b H) (.int z)) (hz : z = (i : Int)) (hd : ds[i]? = some d) : VD b (tOp (rIxL K) ta tb) σ H n d := fun H1 e1 nb Q q =>
  h H1 e1 nb _ fun v H2 e2 h2 => hb H2 ((e1.trans (dl_up e2)).trans dl_ex) _ fun H3 e3 => by
    obtain ⟨p, vs, rfl, hp, hv, _⟩ := has_l (h2.ex (dl_up e3))
    obtain ⟨x, hx, hh⟩ := hasl_get hv hd
    subst hz
    exact ⟨p, vs, _, x, rfl, rfl, SqL.of (dl_ex _ _ hp), atI_nat hx, q x H3 (e2.trans e3) hh⟩
/-- the end of a slice -/
def EvO (to : TO) (σ : L2.St) (H : Hp) (o : Option Int) : Prop := ∀ H1, Ex H H1 → ∀ Q : Option Int → Hp → Prop, (∀ H2, Ex H1 H2 → Q o H2) → to σ H1 Q
theorem eo_no : EvO tNoPart σ H none := fun H1 _ Q q => q H1 (Ex.refl _)
theorem eo_int {z : Int} (h : Ev te σ H (.int z)) : EvO (tPart te) σ H (some z) := fun H1 e1 Q q => h H1 e1 _ fun H2 e2 => ⟨z, rfl, q H2 e2⟩
theorem vd_sl {tlo thi : TO} {lo hi : Option Int} (h : VD b ta σ H (n + 1) (.l ds)) (hlo : EvO tlo σ (dl b H) lo) (hhi : EvO thi σ (dl b H) hi) : VD b (tSl (rSlL K) ta tlo thi) σ H (n + 1) (.l (cutD ds lo hi)) := fun H1 e1 nb Q q =>
  h H1 e1 nb _ fun v H2 e2 h2 => hlo H2 ((e1.trans (dl_up e2)).trans dl_ex) _ fun H3 e3 => hhi H3 ((e1.trans (dl_up (e2.trans e3))).trans dl_ex) _ fun H4 e4 => by
    obtain ⟨p, vs, rfl, hp, hv, fw⟩ := has_l (h2.ex (dl_up (e3.trans e4)))
    have ln := (hasl_at hv).1
    refine ⟨p, vs, rfl, SqL.of (dl_ex _ _ hp), fun x hx => q _ _ (((e2.trans e3).trans e4).trans (Ex.new hx)) (has_lst (hasl_ex (dl_up (Ex.new hx)) ?_) (dl_new (up_ne nb ((e2.trans e3).trans e4)) hx) ?_)⟩
    · unfold cutV cutD
      rw [ln]
      exact hasl_take (m := 0) (hasl_drop hv)
    · unfold cutD
      rw [List.length_take, List.length_drop]
      omega
theorem cutD_last (ds : List Dt) (d : Dt) : cutD (ds ++ [d]) none (some (-1)) = ds := by
  unfold cutD
  have e : HT.sIx (ds ++ [d]).length (ds ++ [d]).length (some (-1)) = ds.length := by
    have z : HT.sIx (ds ++ [d]).length (ds ++ [d]).length (some (-1)) = ((-1 : Int) + ((ds ++ [d]).length : Int)).toNat := if_pos (c := (-1 : Int) < 0) (e := min (-1 : Int).toNat (ds ++ [d]).length) (by decide)
    rw [z]
    simp
    omega
  have e2 : HT.sIx (ds ++ [d]).length 0 none = 0 := rfl
  rw [e, e2, List.drop_zero, Nat.sub_zero]
  simp
theorem vd_c {v : V} (f : Flat v := by exact True.intro) : VD b (tC v) σ H n (.f v) := vd_f ev_c f
theorem vd_if {c : Bool} {tt : TT} (h : EvT tt σ (dl b H) c) (h1 : c = true → VD b ta σ H n d) (h2 : c = false → VD b tb σ H n d) : VD b (tIf tt ta tb) σ H n d := fun H1 e1 nb Q q => h H1 (e1.trans dl_ex) _ fun H2 e2 => by
  have q2 : ∀ v H3, Ex H2 H3 → Has (dl b H3) n v d → Q v H3 := fun v H3 e3 hv => q v H3 (e2.trans e3) hv
  cases c with
  | true => exact iteT (h1 rfl H2 (e1.trans (dl_up e2)) (up_ne nb e2) Q q2)
  | false => exact iteF (h2 rfl H2 (e1.trans (dl_up e2)) (up_ne nb e2) Q q2)
theorem VD.cast (h : VD b te σ H n d) (e : d = d2) : VD b te σ H n d2 := e ▸ h
theorem cutD_lo' {k : Nat} (ds : List Dt) (z : Int) (h : z = (k : Int)) : cutD ds (some z) none = ds.drop k := by rw [h, cutD_lo]
theorem cutD_hi' {k : Nat} (ds : List Dt) (z : Int) (h : z = (k : Int)) : cutD ds none (some z) = ds.take k := by rw [h, cutD_hi]
theorem cutD_len (ds : List Dt) (lo hi : Option Int) : (cutD ds lo hi).length ≤ ds.length := by
  unfold cutD
  rw [List.length_take, List.length_drop]
  omega
theorem ev_addI {i j : Int} (ha : Ev ta σ H (.int i)) (hb : Ev tb σ H (.int j)) : Ev (tOp (rI0 fun i j => .int (i + j)) ta tb) σ H (.int (i + j)) := fun H1 e Q q => ha H1 e _ fun H2 e2 => hb H2 (e.trans e2) _ fun H3 e3 => ⟨i, j, rfl, rfl, q H3 (e2.trans e3)⟩
theorem ev_negI {i : Int} (ha : Ev ta σ H (.int i)) : Ev (tUn (rU fun i => .int (-i)) ta) σ H (.int (-i)) := fun H1 e Q q => ha H1 e _ fun H2 e2 => ⟨i, rfl, q H2 e2⟩
theorem ev_lenX {x : Str} (ha : Ev ta σ H (.str x)) (few : x.length ≤ 1000) : Ev (tCB (fun xs H Q => ∃ z, xs = [V.str z] ∧ z.length ≤ sizeLine ∧ Q (.int (z.length : Int)) H) (tCons ta tNil)) σ H (.int (x.length : Int)) := fun H1 e Q q => ha H1 e _ fun H2 e2 => ⟨x, rfl, Nat.le_of_lt (small1000 (by omega)), q H2 e2⟩
/-- an assignment that is not the last statement -/
theorem q_asgV {D : Ends} {tz : TS} {j : Nat} (h : te σ H fun v H' => tz D (σ.set j (some v)) H') : tSeq (tAsg te (gName j)) tz D σ H := h
theorem q_asgD {D : Ends} {tz : TS} {j : Nat} (h : VD b te σ H n d) (nb : H b ≠ none) (k : ∀ v H1, Ex H H1 → Has (dl b H1) n v d → tz D (σ.set j (some v)) H1) : tSeq (tAsg te (gName j)) tz D σ H := h H (Ex.refl _) nb _ k
theorem q_retV {D : Ends} (h : te σ H fun v H' => D.rt v H') : tRet te D σ H := h
/-! ### lambdas in lists -/
variable {T : List (Addr × Str)} {mk mk2 : Addr → Value → LF}
theorem tabs_dl (B : Bag H b l ns) (h : Tabs T H) : Tabs T (dl b H) := fun p hp => by
  obtain ⟨ps, h1, h2, h3⟩ := h p hp
  have nb : ∀ {c : Addr} {o : HO}, H c = some o → (∀ xs, o ≠ .lst xs) → c ≠ b := fun {c o} hc no z => by
    obtain ⟨_, _, _, i, j, s, h, _⟩ := B
    rw [z, h] at hc
    exact no _ (Option.some.inj hc).symm
  refine ⟨ps, dl_of (nb h1 fun _ z => nomatch z) h1, h2, fun pos cv hc => ?_⟩
  obtain ⟨c, e1, e2⟩ := h3 pos cv hc
  exact ⟨c, e1, dl_of (nb e2 fun _ z => by unfold CodeO at z; cases z) e2⟩
theorem at_dl {f : Addr} {F : LF} (B : Bag H b l ns) (h : LamAt H f F) : LamAt (dl b H) f F := by
  have nb : ∀ {c : Addr} {o : HO}, H c = some o → (∀ xs, o ≠ .lst xs) → c ≠ b := fun {c o} hc no z => by
    obtain ⟨_, _, _, i, j, s, h, _⟩ := B
    rw [z, h] at hc
    exact no _ (Option.some.inj hc).symm
  have dfo : ∀ {m : Nat} {v : Value}, DfO H v m → DfO (dl b H) v m := fun {m v} h => by
    match m, h with
    | 0, h => exact h
    | 1, ⟨T, e, h⟩ => exact ⟨T, e, dl_of (nb h fun _ z => by unfold ZeroO at z; cases z) h⟩
    | _ + 2, h => exact h.elim
  exact ⟨dl_of (nb h.1 fun _ z => by unfold LamO at z; cases z) h.1, dl_of (nb h.2.1 fun _ z => by unfold CodeO at z; cases z) h.2.1, dfo h.2.2⟩
/-- a new list of one lambda -/
theorem lams1 (B : Bag H b l ns) (hT : Tabs T (dl b H)) {Q : VK} (q : ∀ (p f c' : Addr) (dV : Value) (H' : Hp), ExtN (dl b H) (dl b H') → Bag H' b l ns → Tabs T (dl b H') → dl b H' p = some (.lst [.ref f]) → LamAt (dl b H') f (mk c' dV) → Q (.ref p) H') :
    tLst (tCons (tMkLam T mk) tNil) σ H Q :=
  ⟨hT.ext dl_ex, fun f c' dV H1 e1 n1 T1 nf a1 => ⟨(show 1 ≤ sizeLine by decide), fun p hp => by
    have B1 := bag_extN B e1
    have e2 := Ex.new (o := .lst [V.ref f]) hp
    have B2 := bag_ex B1 e2
    exact q p f c' dV _ ((dl_extN e1).trans (dl_extN (ExtN.of e2))) B2 (tabs_dl B2 (T1.ext e2)) (dl_new (bag_some B1) hp) ((at_dl B1 a1).ex (dl_up e2))⟩⟩
theorem lams2 (B : Bag H b l ns) (hT : Tabs T (dl b H)) {Q : VK} (q : ∀ (p f c' f2 c2 : Addr) (dV dV2 : Value) (H' : Hp), ExtN (dl b H) (dl b H') → Bag H' b l ns → Tabs T (dl b H') → dl b H' p = some (.lst [.ref f, .ref f2]) → LamAt (dl b H') f (mk c' dV) → LamAt (dl b H') f2 (mk2 c2 dV2) → Q (.ref p) H') :
    tLst (tCons (tMkLam T mk) (tCons (tMkLam T mk2) tNil)) σ H Q :=
  ⟨hT.ext dl_ex, fun f c' dV H1 e1 n1 T1 nf a1 => ⟨T1, fun f2 c2 dV2 H2 e2 n2 T2 nf2 a2 => ⟨(show 2 ≤ sizeLine by decide), fun p hp => by
    have B1 := bag_extN B e1
    have B2 := bag_extN B1 e2
    have e3 := Ex.new (o := .lst [V.ref f, V.ref f2]) hp
    have B3 := bag_ex B2 e3
    exact q p f c' f2 c2 dV dV2 _ (((dl_extN e1).trans (dl_extN e2)).trans (dl_extN (ExtN.of e3))) B3 (tabs_dl B3 (T2.ext e3)) (dl_new (bag_some B2) hp) ((at_dl B2 (a1.ext e2)).ex (dl_up e3)) ((at_dl B2 a2).ex (dl_up e3))⟩⟩⟩
/-- another list put behind -/
theorem lamsC1 {xs : List V} {j : Nat} (hj : σ[j]? = some (some (.ref a))) (ha : dl b H a = some (.lst xs)) (few : xs.length ≤ 50) (B : Bag H b l ns) (hT : Tabs T (dl b H)) {Q : VK}
    (q : ∀ (p f c' : Addr) (dV : Value) (H' : Hp), ExtN (dl b H) (dl b H') → Bag H' b l ns → Tabs T (dl b H') → dl b H' p = some (.lst (xs ++ [.ref f])) → LamAt (dl b H') f (mk c' dV) → Q (.ref p) H') : tOp rCat (tVar j) (tLst (tCons (tMkLam T mk) tNil)) σ H Q :=
  ⟨_, hj, lams1 B hT fun p f c' dV H1 e1 B1 T1 h1 a1 => by
    have ha1 := e1 _ _ ha fun _ z => nomatch z
    refine ⟨a, p, xs, [.ref f], rfl, rfl, dl_ex _ _ ha1, dl_ex _ _ h1, sz_of (by simp; omega), fun r hr => ?_⟩
    have e2 := Ex.new (o := .lst (xs ++ [V.ref f])) hr
    have B2 := bag_ex B1 e2
    exact q r f c' dV _ (e1.trans (dl_extN (ExtN.of e2))) B2 (T1.ext (dl_up e2)) (dl_new (bag_some B1) hr) (a1.ex (dl_up e2))⟩
theorem lamsC2 {xs : List V} {j : Nat} (hj : σ[j]? = some (some (.ref a))) (ha : dl b H a = some (.lst xs)) (few : xs.length ≤ 50) (B : Bag H b l ns) (hT : Tabs T (dl b H)) {Q : VK}
    (q : ∀ (p f c' f2 c2 : Addr) (dV dV2 : Value) (H' : Hp), ExtN (dl b H) (dl b H') → Bag H' b l ns → Tabs T (dl b H') → dl b H' p = some (.lst (xs ++ [.ref f, .ref f2])) → LamAt (dl b H') f (mk c' dV) → LamAt (dl b H') f2 (mk2 c2 dV2) → Q (.ref p) H') : tOp rCat (tVar j) (tLst (tCons (tMkLam T mk) (tCons (tMkLam T mk2) tNil))) σ H Q :=
  ⟨_, hj, lams2 B hT fun p f c' f2 c2 dV dV2 H1 e1 B1 T1 h1 a1 a2 => by
    have ha1 := e1 _ _ ha fun _ z => nomatch z
    refine ⟨a, p, xs, [.ref f, .ref f2], rfl, rfl, dl_ex _ _ ha1, dl_ex _ _ h1, sz_of (by simp; omega), fun r hr => ?_⟩
    have e2 := Ex.new (o := .lst (xs ++ [V.ref f, V.ref f2])) hr
    have B2 := bag_ex B1 e2
    exact q r f c' f2 c2 dV dV2 _ (e1.trans (dl_extN (ExtN.of e2))) B2 (T1.ext (dl_up e2)) (dl_new (bag_some B1) hr) (a1.ex (dl_up e2)) (a2.ex (dl_up e2))⟩
end
end K03

-- base: law_k08_numbers_of_joint_states
/-! odd states and odd words -/
namespace K03
open PySem L2 L2H LamX LamV Evl OxK
def oddS (n : Nat) : List Dt := [.f (.int (n : Int)), .f (.int (-1)), .f .non, .f (.bl true), .f (.str "0"), .l [.f (.int 0)], .f (.int 100000000000000000000)]
def oddW (x : Str) : List Dt := [.f (.str "A"), .f .non, .f (.str "?"), .f (.int 3), .f (.str (x ++ "q")), .l [.f (.str x)], .f (.str "a b")]
def spOds : Sp := fun vs H Q _ => ∃ (b l : Addr) (ns : List Int) (n : Nat), vs = [.ref b, .int (n : Int)] ∧ Bag H b l ns ∧ ∀ (v : V) (d : Dt) (H' : Hp), d ∈ oddS n → Has (dl b H') 1 v d → Bag H' b l ns → Ex (dl b H) (dl b H') → Q v H'
def spOdw : Sp := fun vs H Q _ => ∃ (b l : Addr) (ns : List Int) (x : Str), vs = [.ref b, .str x] ∧ x.length ≤ 1000 ∧ Bag H b l ns ∧ ∀ (v : V) (d : Dt) (H' : Hp), d ∈ oddW x → Has (dl b H') 1 v d → Bag H' b l ns → Ex (dl b H) (dl b H') → Q v H'
section
variable {P : Program} {w : World} {K : PySem.W.Frag} {mg : Str → Option Value} {base : Heap} {f : Addr} {fd : FuncData}
theorem scOds : FnScope ["_law_bag_here", "_law_size"] ["_law_bag_here", "_law_size"] (defScope sOds) := ⟨rfl, rfl, rfl, by decide +kernel, rfl, by decide +kernel, by decide +kernel⟩
theorem ok_ods {fO : Addr} {fdO : FuncData} (F : FnP K "_law_odd_state" sOds f fd) (GO : FnOk P w K mg base CX0 2 fO fdO ["_law_bag_here", "_law_things"] (spOf K)) (gO : mg "_law_of" = some (.ref fO)) (kO : PySem.W.keepIn K (.ref fO) = true) (bO : Binds K fdO ["_law_bag_here", "_law_things"] []) :
    FnOk P w K mg base CX0 3 f fd ["_law_bag_here", "_law_size"] spOds := by
  refine F.ok scOds (fun vs H Q E h => ?_) (fun cdv A outer s H vs Q E hr h => ?_)
  · obtain ⟨b, l, ns, n, rfl, _⟩ := h
    rfl
  · obtain ⟨b, l, ns, n, rfl, B, k⟩ := h
    refine ⟨_, PSs.nox (pss_one (ps_ret (pe_call GO hr rfl gO kO bO .nil pass0 (pa_cons (pv 0) (pa_cons (pe_lst (pa_cons (pv 1) (pa_cons (pe_un un_neg pe_int) (pa_cons pe_non (pa_cons pe_bl (pa_cons pe_str (pa_cons (pe_lst (pa_cons pe_int pa_nil)) (pa_cons (pe_op op_pow pe_int pe_int) pa_nil)))))))) pa_nil))))), ?_⟩
    refine q_retV ?_
    refine vd_of (n := 1) (ds := oddS n) B (by rfl) (vda_cons (vd_f (ev_var rfl) True.intro) (vda_cons (vd_f (ev_negI ev_c) True.intro) (vda_cons vd_c (vda_cons vd_c (vda_cons vd_c (vda_cons (vd_lst (vda_cons vd_c vda_nil) (by simp)) (vda_cons (vd_f (fun H1 e1 Q q => ?_) True.intro) vda_nil))))))) (by simp [oddS]) (by simp [oddS]) fun kk v d H2 hk hv B2 e2 => k v d H2 (List.mem_of_getElem? hk) hv B2 e2
    exact ⟨_, _, rfl, rfl, (by unfold CPow; decide), q H1 (Ex.refl _)⟩
theorem scOdw : FnScope ["_law_bag_here", "_law_signs_here"] ["_law_bag_here", "_law_signs_here"] (defScope sOdw) := ⟨rfl, rfl, rfl, by decide +kernel, rfl, by decide +kernel, by decide +kernel⟩
theorem ok_odw {fO : Addr} {fdO : FuncData} (F : FnP K "_law_odd_word" sOdw f fd) (GO : FnOk P w K mg base CX0 2 fO fdO ["_law_bag_here", "_law_things"] (spOf K)) (gO : mg "_law_of" = some (.ref fO)) (kO : PySem.W.keepIn K (.ref fO) = true) (bO : Binds K fdO ["_law_bag_here", "_law_things"] []) :
    FnOk P w K mg base CX0 3 f fd ["_law_bag_here", "_law_signs_here"] spOdw := by
  refine F.ok scOdw (fun vs H Q E h => ?_) (fun cdv A outer s H vs Q E hr h => ?_)
  · obtain ⟨b, l, ns, x, rfl, _⟩ := h
    rfl
  · obtain ⟨b, l, ns, x, rfl, xl, B, k⟩ := h
    refine ⟨_, PSs.nox (pss_one (ps_ret (pe_call GO hr rfl gO kO bO .nil pass0 (pa_cons (pv 0) (pa_cons (pe_lst (pa_cons pe_str (pa_cons pe_non (pa_cons pe_str (pa_cons pe_int (pa_cons (pe_op op_add_str (pv 1) pe_str) (pa_cons (pe_lst (pa_cons (pv 1) pa_nil)) (pa_cons pe_str pa_nil)))))))) pa_nil))))), ?_⟩
    refine q_retV ?_
    refine vd_of (n := 1) (ds := oddW x) B (by rfl) (vda_cons vd_c (vda_cons vd_c (vda_cons vd_c (vda_cons vd_c (vda_cons (vd_f (fun H1 e1 Q q => ?_) True.intro) (vda_cons (vd_lst (vda_cons (vd_f (ev_var rfl) True.intro) vda_nil) (by simp)) (vda_cons vd_c vda_nil))))))) (by simp [oddW]) (by simp [oddW]) fun kk v d H2 hk hv B2 e2 => k v d H2 (List.mem_of_getElem? hk) hv B2 e2
    refine ⟨_, rfl, _, _, rfl, rfl, ?_, q H1 (Ex.refl _)⟩
    have z : (Str.ofString "q").length = 1 := by decide +kernel
    rw [z]
    exact sz_of (by omega)
end
end K03

-- base: law_k05_rings_and_counters
/-! far words: Machine.require_part, walk_often, far -/
namespace K03
open PySem L2 Evl OxK
def CntOk (n : Int) : Prop := 0 ≤ n ∧ n ≤ 10 ^ 30
def spIc : Sp := fun vs H Q _ => ∃ n : Int, vs = [.int n] ∧ CntOk n ∧ ∀ H', Ex H H' → Q (.bl true) H'
/-- a word walked again and again -/
def itw (x : Str) (rows : List (List Nat)) (l : List Nat) : Nat → Nat → Nat
  | 0, s => s
  | n + 1, s => itw x rows l n (wlk x rows s l)
def farN (x : Str) (rows : List (List Nat)) : List (Str × Nat) → Nat → Nat
  | [], s => s
  | (w, n) :: r, s => farN x rows r (itw x rows (sg w) n s)
/-- parts of a far word -/
def Parts (K : PySem.W.Frag) (H : Hp) (x : Str) (p : Addr) (ps : List (Str × Nat)) : Prop := ∃ as : List Addr, Seq K H p (as.map V.ref) ∧ as.length = ps.length ∧ ∀ (i : Nat) (a : Addr) (w : Str) (n : Nat), as[i]? = some a → ps[i]? = some (w, n) → H a = some (.tup [.str w, .int (n : Int)]) ∧ WordOk x w ∧ n ≤ 10 ^ 30
def spRpt (K : PySem.W.Frag) (C : Addr) : Sp := fun vs H Q _ => ∃ (s p : Addr) (x w : Str) (rows : List (List Nat)) (n : Nat), vs = [.ref s, .ref p] ∧ IsM K C H s x rows ∧ H p = some (.tup [.str w, .int (n : Int)]) ∧ x ∈ five5 ∧ WordOk x w ∧ n ≤ 10 ^ 30 ∧ ∀ H', Ex H H' → Q .non H'
def spWof (K : PySem.W.Frag) (C : Addr) : Sp := fun vs H Q _ => ∃ (s : Addr) (x w : Str) (rows : List (List Nat)) (n st : Nat), vs = [.ref s, .str w, .int (n : Int), .int (st : Int)] ∧ IsM K C H s x rows ∧ x ∈ five5 ∧ RowsOk x rows ∧ WordOk x w ∧ st < rows.length ∧ ∀ H', Ex H H' → Q (.int (itw x rows (sg w) n st : Int)) H'
def spFar (K : PySem.W.Frag) (C : Addr) : Sp := fun vs H Q _ => ∃ (s p : Addr) (x : Str) (rows : List (List Nat)) (st : Nat) (ps : List (Str × Nat)), vs = [.ref s, .ref p, .int (st : Int)] ∧ IsM K C H s x rows ∧ x ∈ five5 ∧ RowsOk x rows ∧ st < rows.length ∧ Parts K H x p ps ∧ ps.length ≤ 1000 ∧ ∀ H', Ex H H' → Q (.int (farN x rows ps st : Int)) H'
theorem itw_succ {x : Str} {rows : List (List Nat)} {l : List Nat} : ∀ (n s : Nat), itw x rows l (n + 1) s = wlk x rows (itw x rows l n s) l
  | 0, s => rfl
  | n + 1, s => by
    show itw x rows l (n + 1) (wlk x rows s l) = _
    rw [itw_succ n]
    rfl
theorem itw_add {x : Str} {rows : List (List Nat)} {l : List Nat} (s a : Nat) : ∀ b : Nat, itw x rows l (a + b) s = itw x rows l b (itw x rows l a s)
  | 0 => rfl
  | b + 1 => by
    rw [← Nat.add_assoc, itw_succ, itw_succ, itw_add s a b]
theorem itw_lt {x : Str} {rows : List (List Nat)} (ro : RowsOk x rows) {l : List Nat} (hl : ∀ c ∈ l, c ∈ sg x) {s : Nat} (lt : s < rows.length) : ∀ n : Nat, itw x rows l n s < rows.length
  | 0 => lt
  | n + 1 => by
    rw [itw_succ]
    exact wlk_lt ro l _ hl (itw_lt ro hl lt n)
/-- a way that comes back goes round -/
theorem itw_per {x : Str} {rows : List (List Nat)} {l : List Nat} {s f j : Nat} (fj : f < j) (h : itw x rows l f s = itw x rows l j s) : ∀ (k : Nat), itw x rows l (f + k) s = itw x rows l (f + k % (j - f)) s := by
  intro k
  induction k using Nat.strongRecOn with
  | _ k ih =>
    by_cases hk : k < j - f
    · rw [Nat.mod_eq_of_lt hk]
    · have e1 : f + k = j + (k - (j - f)) := by omega
      rw [e1, itw_add, ← h, ← itw_add, ih (k - (j - f)) (by omega), ← Nat.mod_eq_sub_mod (by omega)]
def pathN (x : Str) (rows : List (List Nat)) (l : List Nat) (s j : Nat) : List Nat := (List.range j).map fun i => itw x rows l i s
theorem pathN_snoc {x : Str} {rows : List (List Nat)} {l : List Nat} {s j : Nat} : pathN x rows l s (j + 1) = pathN x rows l s j ++ [itw x rows l j s] := by simp [pathN, List.range_succ]
theorem pathN_len {x : Str} {rows : List (List Nat)} {l : List Nat} {s j : Nat} : (pathN x rows l s j).length = j := by simp [pathN]
theorem pathN_at {x : Str} {rows : List (List Nat)} {l : List Nat} {s j i : Nat} (h : i < j) : (pathN x rows l s j)[i]? = some (itw x rows l i s) := by simp [pathN, h]
theorem inV_nat (g : Nat) (l : List Nat) : inV (.int (g : Int)) (l.map fun a : Nat => V.int (a : Int)) = decide (g ∈ l) := by
  unfold inV
  rw [List.any_map, Bool.eq_iff_iff, List.any_eq_true, decide_eq_true_iff]
  constructor
  · rintro ⟨a, ha, e⟩
    have e : decide ((a : Int) = (g : Int)) = true := e
    have := of_decide_eq_true e
    have : a = g := by omega
    exact this ▸ ha
  · intro h
    exact ⟨g, h, show decide ((g : Int) = (g : Int)) = true by simp⟩
theorem flat_nats (l : List Nat) : (l.map fun a : Nat => V.int (a : Int)).all flatV = true := by
  rw [List.all_map]
  exact List.all_eq_true.mpr fun _ _ => rfl
theorem path_few {x : Str} {rows : List (List Nat)} (ro : RowsOk x rows) {l : List Nat} (hl : ∀ c ∈ l, c ∈ sg x) {s j : Nat} (lt : s < rows.length) (nd : (pathN x rows l s j).Nodup) : j ≤ rows.length := by
  have h := L2.nat_nodup_len (pathN x rows l s j) (List.range rows.length) nd (fun y hy => by
    obtain ⟨i, _, rfl⟩ := List.mem_map.mp hy
    exact List.mem_range.mpr (itw_lt ro hl lt i))
  rw [pathN_len, List.length_range] at h
  exact h
/-- the first place -/
theorem first_at {l : List Nat} {g : Nat} (h : g ∈ l) : ∃ f : Nat, l[f]? = some g ∧ ∀ (m y : Nat), m < f → l[m]? = some y → y ≠ g := by
  induction l with
  | nil => cases h
  | cons a r ih =>
    by_cases e : a = g
    · exact ⟨0, by rw [e]; rfl, fun m y hm => absurd hm (Nat.not_lt_zero m)⟩
    · rcases List.mem_cons.mp h with rfl | h
      · exact absurd rfl e
      · obtain ⟨f, h1, h2⟩ := ih h
        refine ⟨f + 1, by simpa using h1, fun m y hm hy => ?_⟩
        cases m with
        | zero => simp at hy; subst hy; exact e
        | succ m => exact h2 m y (by omega) (by simpa using hy)
theorem farN_snoc {x : Str} {rows : List (List Nat)} {w : Str} {n : Nat} : ∀ (l : List (Str × Nat)) (s : Nat), farN x rows (l ++ [(w, n)]) s = itw x rows (sg w) n (farN x rows l s)
  | [], s => rfl
  | (v, m) :: l, s => farN_snoc l _
theorem farN_lt {x : Str} {rows : List (List Nat)} (ro : RowsOk x rows) : ∀ (l : List (Str × Nat)) (s : Nat), (∀ p ∈ l, WordOk x p.1) → s < rows.length → farN x rows l s < rows.length
  | [], s, _, h => h
  | (v, m) :: l, s, hw, h => farN_lt ro l _ (fun p hp => hw p (List.mem_cons_of_mem _ hp)) (itw_lt ro (hw (v, m) (List.mem_cons_self)).of h m)
section
variable {P : Program} {w : World} {K : PySem.W.Frag} {mg : Str → Option Value} {base : Heap} {f : Addr} {fd : FuncData}
theorem scRpt : FnScope ["self", "part"] ["self", "part"] (defScope sRpt) := ⟨rfl, rfl, rfl, by decide +kernel, rfl, by decide +kernel, by decide +kernel⟩
theorem ok_rpt {C fW fIc : Addr} {fdW fdIc : FuncData} (F : FunD K "require_part" "Machine.require_part" (defArgs sRpt) (defBody sRpt) (defScope sRpt) [] [] f fd) (T : NoS mg) (MC : MCls K C)
    (mW : Meth K C "require_word" fW) (GW : FnOk P w K mg base CX0 2 fW fdW ["self", "word"] (spRqw K C)) (bW : Binds K fdW ["self", "word"] [])
    (GIc : FnOk P w K mg base CX0 3 fIc fdIc ["value"] spIc) (gIc : mg "is_count" = some (.ref fIc)) (kIc : PySem.W.keepIn K (.ref fIc) = true) (bIc : Binds K fdIc ["value"] []) : FnOk P w K mg base CX0 4 f fd ["self", "part"] (spRpt K C) := by
  refine F.ok scRpt (fun vs H Q E h => ?_) (fun cdv A outer s H vs Q E hr h => ?_)
  · obtain ⟨s, p, x, wd, rows, n, rfl, _⟩ := h
    rfl
  · obtain ⟨se, p, x, wd, rows, n, rfl, im, hp, x5, wo, hn, k⟩ := h
    refine ⟨_, PSs.nox (pss_cons (ps_if (PW.pt (pw_or (pt_not (pt_val (pe_callB call_isi (by rfl) T.b.isi PyProof.Rows.boot_isinstance (pa_cons (pv 1) (pa_cons (pe_bltn (v := .ty "tuple") (by rfl) T.b.tup (by decide +kernel) rfl) pa_nil))))) (pw_or1 (pt_cmpR op_ne (pe_callB call_len_seq (by rfl) T.len PySem.boot_len (pa_cons (pv 1) pa_nil)) pe_int (nomark _))))) (pss_one ps_never) pss_nil)
      (pss_cons (ps_expr (pe_meth (pv 0) MC.c mW GW (hr.mono (by decide)) bW .nil pass0 (pa_cons (pe_ix ix_tup (pv 1) pe_int (fun _ _ => rfl)) pa_nil)))
      (pss_one (ps_if (pt_not (pt_val (pe_call GIc (hr.mono (by decide)) rfl gIc kIc bIc .nil pass0 (pa_cons (pe_ix ix_tup (pv 1) pe_int (fun _ _ => rfl)) pa_nil)))) (pss_one ps_never) pss_nil)))), ?_⟩
    have st0 : L2.start (["self", "part"] : List Str) [V.ref se, V.ref p] = [some (V.ref se), some (V.ref p)] := rfl
    rw [st0]
    refine q_when (b := false) (et_or (a := false) (b := false) (et_not (a := true) (et_B (ev_is (ev_isi (ev_var rfl) (kn_tup hp)) rfl))) (fun _ => et_test (ev_is (ev_op (x := .int 2) (fun H2 e2 Q2 q2 => ⟨_, rfl, p, _, rfl, .inr (SqT.of (e2 _ _ hp)), q2 H2 (Ex.refl _)⟩) ev_c (rv_ne rfl)) rfl))) (fun h => nomatch h) (fun _ H1 e1 => ?_)
    have im1 := sqt_ex im e1
    obtain ⟨dx, r, d, hs, _⟩ := id im1
    refine ⟨_, rfl, se, dx, _, rfl, hs, rfl, _, rfl, p, _, 0, .str wd, rfl, rfl, SqT.of (e1 _ _ hp), rfl, se, x, wd, rows, rfl, im1, x5, wo, fun H2 e2 => ?_⟩
    dsimp only
    refine s_when (b := false) (et_not (a := true) (et_B fun H3 e3 Q3 q3 => ?_)) (fun h => nomatch h) ?_
    · exact ⟨_, rfl, p, _, 1, .int n, rfl, rfl, SqT.of (e3 _ _ (e2 _ _ (e1 _ _ hp))), rfl, (n : Int), rfl, ⟨by omega, by exact_mod_cast hn⟩, q3⟩
    · exact fun _ H3 e3 => k H3 ((e1.trans e2).trans e3)
theorem scWof : FnScope ["self", "word", "count", "state", "path", "first"] ["self", "word", "count", "state"] (defScope sWof) := ⟨rfl, rfl, rfl, by decide +kernel, rfl, by decide +kernel, by decide +kernel⟩
theorem ok_wof {C fK : Addr} {fdK : FuncData} (F : FunD K "walk_often" "Machine.walk_often" (defArgs sWof) (defBody sWof) (defScope sWof) [] [] f fd) (T : NoS mg) (MC : MCls K C)
    (mK : Meth K C "walk" fK) (GK : FnOk P w K mg base CX0 1 fK fdK ["self", "word", "state"] (spWk K C)) (bK : Binds K fdK ["self", "word", "state"] []) : FnOk P w K mg base CX0 2 f fd ["self", "word", "count", "state"] (spWof K C) := by
  refine F.ok scWof (fun vs H Q E h => ?_) (fun cdv A outer s H vs Q E hr h => ?_)
  · obtain ⟨s, x, wd, rows, n, st, rfl, _⟩ := h
    rfl
  · obtain ⟨se, x, wd, rows, n, st, rfl, im, x5, ro, wo, lt, k⟩ := h
    refine ⟨_, PSs.nox (pss_cons (ps_set (i := 4) scWof.nd rfl (Or.inl rfl) (pe_lst pa_nil))
      (pss_cons (ps_while PassesOwn.never (PW.pt (pw_and (pt_cmpR op_lt (pe_callB call_len_seq (by rfl) T.len PySem.boot_len (pa_cons (pv 4) pa_nil)) (pv 2) (nomark _)) (pw_and1 (pt_cmpR op_notIn_seq (pv 3) (pv 4) (by with_unfolding_all rfl))))) (pss_cons (ps_expr (pe_bm PySem.F.plainAttrs_list PySem.F.slot_list_append PySem.F.type_list_append mt_append (pv 4) (pa_cons (pv 3) pa_nil)))
      (pss_one (ps_set (i := 3) scWof.nd rfl (Or.inl rfl) (pe_meth (pv 0) MC.c mK GK (hr.mono (by decide)) bK .nil pass0 (pa_cons (pv 1) (pa_cons (pv 3) pa_nil)))))))
      (pss_cons (ps_if (pt_cmpR op_eq (pe_callB call_len_seq (by rfl) T.len PySem.boot_len (pa_cons (pv 4) pa_nil)) (pv 2) (nomark _)) (pss_one (ps_ret (pv 3))) pss_nil)
      (pss_cons (ps_set (i := 5) scWof.nd rfl (Or.inl rfl) (pe_bm PySem.F.plainAttrs_list PySem.F.slot_list_index PySem.F.type_list_index mt_index (pv 4) (pa_cons (pv 3) pa_nil)))
      (pss_one (ps_ret (pe_ix ix_list (pv 4) (pe_op op_add (pv 5) (pe_op op_mod (pe_op op_sub (pv 2) (pv 5)) (pe_op op_sub (pe_callB call_len_seq (by rfl) T.len PySem.boot_len (pa_cons (pv 4) pa_nil)) (pv 5)))) (fun _ _ => rfl)))))))), ?_⟩
    have st0 : L2.start (["self", "word", "count", "state", "path", "first"] : List Str) [V.ref se, V.str wd, V.int (n : Int), V.int (st : Int)] = [some (V.ref se), some (V.str wd), some (V.int (n : Int)), some (V.int (st : Int)), none, none] := rfl
    rw [st0]
    have ro24 := ro.most
    have hl : ∀ c ∈ sg wd, c ∈ sg x := wo.of
    refine ⟨Nat.zero_le _, fun o ho => ?_⟩
    dsimp only [List.set, gName]
    have eN : Ex H (upd H o (.lst [])) := Ex.new ho
    let V0 (H : Hp) (j : Nat) : Prop := H o = some (.lst ((pathN x rows (sg wd) st j).map fun a : Nat => V.int (a : Int)))
    have lenE : ∀ {σ : L2.St} {H1 : Hp} {j : Nat}, σ[4]? = some (some (.ref o)) → V0 H1 j → Ev (tCB (fun xs H Q => ∃ p ys, xs = [V.ref p] ∧ (SqL K H p ys ∨ SqT K H p ys) ∧ Q (.int (ys.length : Int)) H) (tCons (tVar 4) tNil)) σ H1 (.int (j : Int)) := fun hv h H2 e2 Q2 q2 => ⟨_, hv, o, _, rfl, .inl (SqL.of (e2 _ _ h)), by
      rw [List.length_map, pathN_len]
      exact q2 H2 (Ex.refl _)⟩
    refine s_while (W := fun m σ' H' => ∃ (j : Nat) (u5 : Option V), σ' = [some (.ref se), some (.str wd), some (.int (n : Int)), some (.int (itw x rows (sg wd) j st : Int)), some (.ref o), u5] ∧ V0 H' j ∧ Ex H H' ∧ j ≤ n ∧ (pathN x rows (sg wd) st j).Nodup ∧ m = rows.length + 1 - j) (rows.length + 1) ?_ ?_
    · exact ⟨0, none, rfl, upd_same, eN, Nat.zero_le _, List.nodup_nil, rfl⟩
    rintro m σ' H' ⟨j, u5, rfl, hP, eH, jn, nd, rfl⟩
    have few := path_few ro hl lt nd
    have lj := itw_lt ro hl lt j
    refine ⟨decide ((j : Int) < (n : Int)) && !decide (itw x rows (sg wd) j st ∈ pathN x rows (sg wd) st j), et_and (et_test (ev_is (ev_op (lenE rfl hP) (ev_var rfl) rv_I0) rfl)) (fun _ => et_test (ev_is (fun H2 e2 Q2 q2 => ⟨_, rfl, _, rfl, o, _, rfl, .inl (SqL.of (e2 _ _ hP)), rfl, flat_nats _, by
      rw [inV_nat]
      exact q2 H2 (Ex.refl _)⟩) rfl)), fun yes H1 e1 => ?_, fun no H1 e1 => ?_⟩
    · obtain ⟨y1, y2⟩ := Bool.and_eq_true_iff.mp yes
      have jlt : j < n := by have := of_decide_eq_true y1; omega
      have new : itw x rows (sg wd) j st ∉ pathN x rows (sg wd) st j := by
        intro z
        rw [decide_eq_true z] at y2
        cases y2
      refine ⟨fun σ2 H2 => σ2 = [some (.ref se), some (.str wd), some (.int (n : Int)), some (.int (itw x rows (sg wd) (j + 1) st : Int)), some (.ref o), u5] ∧ V0 H2 (j + 1) ∧ Ex H H2, ?_, ?_⟩
      · rintro σ2 H2 ⟨rfl, h2, e2⟩
        refine ⟨rows.length + 1 - (j + 1), by omega, j + 1, u5, rfl, h2, e2, jlt, ?_, rfl⟩
        rw [pathN_snoc]
        exact List.nodup_append.mpr ⟨nd, by simp, fun a ha b hb => by
          rw [List.mem_singleton.mp hb]
          exact fun z => new (z ▸ ha)⟩
      · refine s_app (l := o) (v := .int (itw x rows (sg wd) j st : Int)) (e1 _ _ hP) (ev_var rfl) (ev_var rfl) (by rw [List.length_map, pathN_len]; omega) fun H2 e2 => ?_
        have eA : Ex H (upd H2 o (.lst ((pathN x rows (sg wd) st j).map (fun a : Nat => V.int (a : Int)) ++ [.int (itw x rows (sg wd) j st : Int)]))) := Ex.mut ((eH.trans e1).trans e2) ho
        have h2 : V0 (upd H2 o (.lst ((pathN x rows (sg wd) st j).map (fun a : Nat => V.int (a : Int)) ++ [.int (itw x rows (sg wd) j st : Int)]))) (j + 1) := by
          show upd H2 o _ o = _
          rw [upd_same, pathN_snoc, List.map_append]
          rfl
        revert eA h2
        generalize upd H2 o (.lst ((pathN x rows (sg wd) st j).map (fun a : Nat => V.int (a : Int)) ++ [.int (itw x rows (sg wd) j st : Int)])) = H3
        intro eA h2
        have im3 := sqt_ex im eA
        obtain ⟨dx, r, d, hs, _⟩ := id im3
        refine ⟨_, rfl, se, dx, _, rfl, hs, rfl, _, rfl, _, rfl, se, x, wd, rows, itw x rows (sg wd) j st, rfl, im3, x5, ro, wo, lj, fun H4 e4 => ⟨?_, e4 _ _ h2, eA.trans e4⟩⟩
        rw [itw_succ]
        rfl
    · have hP1 := e1 _ _ hP
      refine q_when (b := decide (V.int (j : Int) = V.int (n : Int))) (et_test (ev_is (ev_op (lenE rfl hP1) (ev_var rfl) (rv_eq rfl)) rfl)) (fun h H2 e2 => ?_) (fun h H2 e2 => ?_)
      · have z : j = n := by
          have := of_decide_eq_true h
          injection this with this
          omega
        subst z
        exact ⟨_, rfl, k H2 ((eH.trans e1).trans e2)⟩
      · have jlt : j < n := by
          have := of_decide_eq_false h
          rcases Nat.lt_or_ge j n with q | q
          · exact q
          · exact absurd (by rw [show j = n by omega]) this
        have mem : itw x rows (sg wd) j st ∈ pathN x rows (sg wd) st j := by
          rcases Bool.and_eq_false_iff.mp no with q | q
          · have := of_decide_eq_false q; omega
          · exact of_decide_eq_true (by cases z : decide (itw x rows (sg wd) j st ∈ pathN x rows (sg wd) st j) with
              | true => rfl
              | false => rw [z] at q; cases q)
        obtain ⟨f0, hf, hmin⟩ := first_at mem
        have fj : f0 < j := by have := (List.getElem?_eq_some_iff.mp hf).1; rw [pathN_len] at this; exact this
        have hfj : itw x rows (sg wd) f0 st = itw x rows (sg wd) j st := by
          rw [pathN_at fj] at hf
          exact Option.some.inj hf
        have hP2 := e2 _ _ hP1
        refine ⟨_, rfl, .inl ⟨rfl, _, SqL.of hP2⟩, _, rfl, o, _, .int (itw x rows (sg wd) j st : Int), f0, .int (itw x rows (sg wd) j st : Int), rfl, rfl, SqL.of hP2, rfl, flat_nats _, by rw [List.getElem?_map, hf]; rfl, (by show decide (_ = _) = true; simp), fun m z' hm hz' => ?_, ?_⟩
        · rw [List.getElem?_map] at hz'
          cases e4 : (pathN x rows (sg wd) st j)[m]? with
          | none => rw [e4] at hz'; cases hz'
          | some y =>
            rw [e4] at hz'
            cases hz'
            have ne := hmin m y hm e4
            show decide ((y : Int) = (itw x rows (sg wd) j st : Int)) = false
            simp
            omega
        dsimp only [List.set, gName]
        have hlt : f0 + (n - f0) % (j - f0) < j := by have := Nat.mod_lt (n - f0) (show 0 < j - f0 by omega); omega
        have key : itw x rows (sg wd) (f0 + (n - f0) % (j - f0)) st = itw x rows (sg wd) n st := by
          rw [← itw_per fj hfj (n - f0)]
          congr 1
          omega
        have e3 : (f0 : Int) + ((n : Int) - f0) % ((j : Int) - f0) = ((f0 + (n - f0) % (j - f0) : Nat) : Int) := by
          rw [Int.natCast_add, Int.natCast_emod, Int.ofNat_sub (by omega), Int.ofNat_sub (by omega)]
        have big : Ev (tOp (rI0 fun i j => V.int (i + j)) (tVar 5) (tOp (rI (fun x j => 0 < j) fun i j => V.int (i % j)) (tOp (rI0 fun i j => V.int (i - j)) (tVar 2) (tVar 5)) (tOp (rI0 fun i j => V.int (i - j)) (tCB (fun xs H Q => ∃ p ys, xs = [V.ref p] ∧ (SqL K H p ys ∨ SqT K H p ys) ∧ Q (.int (ys.length : Int)) H) (tCons (tVar 4) tNil)) (tVar 5))))
          [some (.ref se), some (.str wd), some (.int (n : Int)), some (.int (itw x rows (sg wd) j st : Int)), some (.ref o), some (.int (f0 : Int))] H2 (.int ((f0 + (n - f0) % (j - f0) : Nat) : Int)) := by
          rw [← e3]
          exact ev_op (ev_var rfl) (ev_op (ev_op (ev_var rfl) (ev_var rfl) rv_I0) (ev_op (lenE rfl hP2) (ev_var rfl) rv_I0) (fun H5 e5 Q5 q5 => ⟨_, _, rfl, rfl, by omega, q5 H5 (Ex.refl _)⟩)) rv_I0
        refine (ev_op (ev_var rfl) big (rv_ixL (SqL.of hP2) (atI_nat (by rw [List.getElem?_map, pathN_at hlt]; rfl)))) H2 (Ex.refl _) _ fun H5 e5 => ?_
        rw [key]
        exact k H5 (((eH.trans e1).trans e2).trans e5)
theorem scFar : FnScope ["self", "parts", "state", "part", "word", "count"] ["self", "parts", "state"] (defScope sFar) := ⟨rfl, rfl, rfl, by decide +kernel, rfl, by decide +kernel, by decide +kernel⟩
theorem ok_far {C fS fP fO : Addr} {fdS fdP fdO : FuncData} (F : FunD K "far" "Machine.far" (defArgs sFar) (defBody sFar) (defScope sFar) [] [("state", .int 0)] f fd) (MC : MCls K C)
    (mS : Meth K C "require_state" fS) (GS : FnOk P w K mg base CX0 3 fS fdS ["self", "state"] (spRqs K C)) (bS : Binds K fdS ["self", "state"] [])
    (mP : Meth K C "require_part" fP) (GP : FnOk P w K mg base CX0 4 fP fdP ["self", "part"] (spRpt K C)) (bP : Binds K fdP ["self", "part"] [])
    (mO : Meth K C "walk_often" fO) (GO : FnOk P w K mg base CX0 2 fO fdO ["self", "word", "count", "state"] (spWof K C)) (bO : Binds K fdO ["self", "word", "count", "state"] []) : FnOk P w K mg base CX0 5 f fd ["self", "parts", "state"] (spFar K C) := by
  refine F.ok scFar (fun vs H Q E h => ?_) (fun cdv A outer s H vs Q E hr h => ?_)
  · obtain ⟨s, p, x, rows, st, ps, rfl, _⟩ := h
    rfl
  · obtain ⟨se, p, x, rows, st, ps, rfl, im, x5, ro, lt, hp, few, k⟩ := h
    refine ⟨_, PSs.nox (pss_cons (ps_expr (pe_meth (pv 0) MC.c mS GS (hr.mono (by decide)) bS .nil pass0 (pa_cons (pv 2) pa_nil)))
      (pss_cons (ps_for PassesOwn.never rfl (pi_or (pi_list (pv 1)) (pi_tup (pv 1))) (pg_name (i := 3) scFar.nd rfl (Or.inl rfl)) (pss_cons (ps_expr (pe_meth (pv 0) MC.c mP GP (hr.mono (by decide)) bP .nil pass0 (pa_cons (pv 3) pa_nil)))
      (pss_cons (ps_asg (pv 3) (pg_tup (by rfl) (pgs_cons (pg_name (i := 4) scFar.nd rfl (Or.inl rfl)) (pgs_cons (pg_name (i := 5) scFar.nd rfl (Or.inl rfl)) pgs_nil))))
      (pss_one (ps_set (i := 2) scFar.nd rfl (Or.inl rfl) (pe_meth (pv 0) MC.c mO GO (hr.mono (by decide)) bO .nil pass0 (pa_cons (pv 4) (pa_cons (pv 5) (pa_cons (pv 2) pa_nil)))))))))
      (pss_one (ps_ret (pv 2))))), ?_⟩
    have st0 : L2.start (["self", "parts", "state", "part", "word", "count"] : List Str) [V.ref se, V.ref p, V.int (st : Int)] = [some (V.ref se), some (V.ref p), some (V.int (st : Int)), none, none, none] := rfl
    rw [st0]
    obtain ⟨as, hq, al, hps⟩ := hp
    have wos : ∀ q ∈ ps, WordOk x q.1 := fun q hq2 => by
      obtain ⟨i, hi, rfl⟩ := List.mem_iff_getElem.mp hq2
      exact (hps i (as[i]'(by omega)) ps[i].1 ps[i].2 (List.getElem?_eq_getElem (by omega)) (List.getElem?_eq_getElem hi)).2.1
    obtain ⟨dx, r, d, hs, r1⟩ := id im
    refine ⟨_, rfl, se, dx, _, rfl, hs, rfl, _, rfl, se, x, rows, st, rfl, im, lt, fun H1 e1 => ?_⟩
    refine or_seqI (H0 := H1) (fun Q q => ⟨_, rfl, q⟩) (Ex.refl _) (hq.ex e1) fun J wk => for_wk wk (fun i σ' H' => Ex H1 H' ∧ ∃ u3 u4 u5, σ' = [some (.ref se), some (.ref p), some (.int (farN x rows (ps.take i) st : Int)), u3, u4, u5]) ⟨Ex.refl _, none, none, none, rfl⟩ (fun i σ' H' p => p.1) ?_ ?_
    · rintro i y σ' H2 H3 hi ⟨rfl, hy⟩ ⟨e2, u3, u4, u5, rfl⟩
      rw [List.length_map] at hi
      obtain ⟨a, ha⟩ : ∃ a, as[i]? = some a := ⟨_, List.getElem?_eq_getElem hi⟩
      obtain ⟨⟨wd, n⟩, hw⟩ : ∃ q, ps[i]? = some q := ⟨_, List.getElem?_eq_getElem (by omega)⟩
      obtain ⟨h1, wo, hn⟩ := hps i a wd n ha hw
      have ey : y = .ref a := by
        rw [List.getElem?_map, ha] at hy
        exact (Option.some.inj hy).symm
      subst ey
      have e12 := e1.trans e2
      have lt2 := farN_lt ro (ps.take i) st (fun q hq => wos q (List.mem_of_mem_take hq)) lt
      refine ⟨_, rfl, se, dx, _, rfl, e12 _ _ hs, rfl, _, rfl, se, a, x, wd, rows, n, rfl, sqt_ex im e12, e12 _ _ h1, x5, wo, hn, fun H4 e4 => ?_⟩
      have e14 := e12.trans e4
      dsimp only [List.set, gName]
      refine ⟨_, rfl, a, _, rfl, SqT.of (e14 _ _ h1), rfl, _, _, rfl, _, _, rfl, rfl, ?_⟩
      dsimp only [List.set, gName]
      refine ⟨_, rfl, se, dx, _, rfl, e14 _ _ hs, rfl, _, rfl, _, rfl, _, rfl, se, x, wd, rows, n, farN x rows (ps.take i) st, rfl, sqt_ex im e14, x5, ro, wo, lt2, fun H5 e5 => ⟨(e2.trans e4).trans e5, some (.ref a), some (.str wd), some (.int (n : Int)), ?_⟩⟩
      have z : ps.take (i + 1) = ps.take i ++ [(wd, n)] := by rw [List.take_add_one, hw]; rfl
      rw [z, farN_snoc]
      rfl
    · rintro σ' H2 ⟨e2, u3, u4, u5, rfl⟩
      refine ⟨_, rfl, ?_⟩
      rw [List.take_of_length_le (by rw [List.length_map]; omega)]
      exact k H2 (e1.trans e2)
theorem bd_far (F : FunD K "far" "Machine.far" (defArgs sFar) (defBody sFar) (defScope sFar) [] [("state", .int 0)] f fd) : ∃ ds, Vals [V.int 0] ds ∧ Binds K fd ["self", "parts", "state"] ds :=
  F.binds0 2 (by decide) rfl fun D doc pm an cdv ct us ks h1 h2 => by
    match us, ks, h1, h2 with
    | [a, b], [c], _, _ => exact ⟨_, _, _, _, _, _, rfl, rfl, rfl⟩
theorem scIc : FnScope ["value"] ["value"] (defScope sIc) := ⟨rfl, rfl, rfl, by decide +kernel, rfl, by decide +kernel, by decide +kernel⟩
theorem ok_ic2 {fIx : Addr} {fdIx : FuncData} (F : FnP K "is_count" sIc f fd) (gMC : ∃ t, mg "MOST_COUNT" = some (.int 1000000000000000000000000000000 t)) (GIx : FnOk P w K mg base CX0 2 fIx fdIx ["value", "size"] (spIdx K)) (gIx : mg "is_index" = some (.ref fIx)) (kIx : PySem.W.keepIn K (.ref fIx) = true) (bIx : Binds K fdIx ["value", "size"] []) : FnOk P w K mg base CX0 3 f fd ["value"] spIc := by
  obtain ⟨t, gMC⟩ := gMC
  refine F.ok scIc (fun vs H Q E h => ?_) (fun cdv A outer s H vs Q E hr h => ?_)
  · obtain ⟨n, rfl, _⟩ := h
    rfl
  · obtain ⟨n, rfl, hn, k⟩ := h
    refine ⟨_, PSs.nox (pss_one (ps_ret (pe_call GIx (hr.mono (by decide)) rfl gIx kIx bIx .nil pass0 (pa_cons (pv 0) (pa_cons (pe_op op_add (pe_glob (v := .int 1000000000000000000000000000000) rfl gMC ⟨_, rfl⟩) pe_int) pa_nil))))), ?_⟩
    refine ⟨_, rfl, _, _, rfl, rfl, _, _, rfl, True.intro, fun H2 e2 => ?_⟩
    have z : isIx (.int n) (1000000000000000000000000000000 + 1) = true := by
      show (decide (0 ≤ n) && decide (n < _)) = true
      obtain ⟨h1, h2⟩ := hn
      rw [decide_eq_true h1, decide_eq_true (Int.lt_of_le_of_lt h2 (by decide))]
      rfl
    have q2 := k H2 e2
    rw [← z] at q2
    exact q2
end
end K03

/-! is_alphabet of any value -/
namespace K03
open PySem L2 Evl OxK
def climbB : List Nat → Bool
  | a :: b :: r => decide (a < b) && climbB (b :: r)
  | _ => true
def climbAt (l : List Nat) (i : Nat) : Bool := decide (l.getD i 0 < l.getD (i + 1) 0)
theorem climb_all : ∀ l : List Nat, ((List.range (l.length - 1)).map (climbAt l)).all id = climbB l
  | [] => rfl
  | [_] => rfl
  | a :: b :: r => by
    have ih := climb_all (b :: r)
    have e : (a :: b :: r).length - 1 = ((b :: r).length - 1) + 1 := by simp
    rw [e, List.range_succ_eq_map, List.map_cons, List.map_map, List.all_cons]
    have z : (climbAt (a :: b :: r) ∘ Nat.succ) = climbAt (b :: r) := by
      funext i
      simp [climbAt]
    rw [z, ih]
    rfl
def lowB (l : List Nat) : Bool := l.all fun c => decide (97 ≤ c) && decide (c ≤ 122)
def alphaB (x : Str) : Bool := decide (1 ≤ (sg x).length) && decide ((sg x).length ≤ 3) && (climbB (sg x) && lowB (sg x))
def spClbB : Sp := fun vs H Q _ => ∃ x : Str, vs = [.str x] ∧ 1 ≤ x.length ∧ x.length ≤ 1000 ∧ ∀ H', Ex H H' → Q (.bl (climbB (sg x))) H'
def spAlpA (K : PySem.W.Frag) : Sp := fun vs H Q _ => ∃ (v : V) (T : String), vs = [v] ∧ Kn K H v T ∧ ((T ≠ "str" ∧ ∀ H', Ex H H' → Q (.bl false) H') ∨ ∃ x : Str, v = .str x ∧ T = "str" ∧ x.length ≤ 1000 ∧ ∀ H', Ex H H' → Q (.bl (alphaB x)) H')
section
variable {P : Program} {w : World} {K : PySem.W.Frag} {mg : Str → Option Value} {base : Heap} {f : Addr} {fd : FuncData}
theorem ev_allB {K : PySem.W.Frag} {σ : L2.St} {H : Hp} {te : TE} {bs : List Bool} (h : EvL te σ H (bs.map V.bl)) : Ev (tCB (rAll K) (tCons te tNil)) σ H (.bl (bs.all id)) := fun H1 e Q q =>
  h H1 e _ fun p H2 _ e2 h2 => ⟨p, bs, rfl, SqL.of h2, q H2 e2⟩
theorem lc_bls {J : It} {n : Nat} {g : TG} {te : TE} {vs : List Nat} {σ : L2.St} {H1 : Hp} {D : Addr} {Q : VK} (b : Nat → Bool) (hD : H1 D = none) (hn : n ≤ 1000) (hgo : ∀ i H, Ex H1 H → i < n → J.go i H) (hst : ∀ H, Ex H1 H → J.stop n H)
    (hs : ∀ i H x H', Ex H1 H → i < n → J.yld i H x H' → Ex H H' ∧ g x (wipe σ vs) H' fun σ2 H2 => wipe σ2 vs = wipe σ vs ∧ H2 = H' ∧ ∀ Q2 : VK, (∀ H3, Ex H2 H3 → Q2 (.bl (b i)) H3) → te σ2 H2 Q2)
    (hg : ∀ (x : V) (τ : L2.St) (H : Hp) (A B : L2.St → Hp → Prop), (∀ τ' H', A τ' H' → B τ' H') → g x τ H A → g x τ H B) (q : ∀ H, Ex H1 H → H D = some (.lst (((List.range n).map b).map V.bl)) → Q (.ref D) H) :
    ∃ W : Nat → Nat → Hp → Prop, (∃ m, W 0 m (upd H1 D (.lst []))) ∧ ∀ i m H, W i m H →
      (J.stop i H ∧ Q (.ref D) H) ∨ (J.go i H ∧ ∃ Nx : Hp → Prop, (∀ H', Nx H' → ∃ m', m' < m ∧ W (i + 1) m' H') ∧ ∀ x H', J.yld i H x H' → g x (wipe σ vs) H' fun σ2 H2 => wipe σ2 vs = wipe σ vs ∧ tYes σ2 H2 fun b H3 =>
        if b = true then te σ2 H3 fun y H4 => ∃ acc, H4 D = some (.lst acc) ∧ acc.length < sizeLine ∧ Nx (upd H4 D (.lst (acc ++ [y]))) else Nx H3) := by
  refine lc_any (J := J) (n := n) (fun i H => Ex H1 H ∧ H D = some (.lst (((List.range i).map b).map V.bl))) ⟨Ex.new hD, upd_same⟩ (fun i H hi p => hgo i H p.1 hi) (fun H p => hst H p.1) (fun i H x H' hi p y => ?_) (fun H p => q H p.1 p.2)
  obtain ⟨e, z⟩ := hs i H x H' p.1 hi y
  refine hg _ _ _ _ _ (fun τ H2 ⟨h1, h2, h3⟩ => ⟨h1, tt_yes (h3 _ fun H3 e3 => ?_)⟩) z
  subst h2
  refine ⟨_, e3 _ _ (e _ _ p.2), small1000 (by rw [List.length_map, List.length_map, List.length_range]; omega), Ex.mut ((p.1.trans e).trans e3) hD, ?_⟩
  rw [upd_same, List.range_succ, List.map_append, List.map_append]
  rfl
theorem lt_one (a b : Nat) : decide (([a] : List Nat) < [b]) = decide (a < b) := by
  rw [Bool.eq_iff_iff, decide_eq_true_iff, decide_eq_true_iff]
  constructor
  · intro h
    cases h with
    | rel h => exact h
    | cons h => cases h
  · exact fun h => List.Lex.rel h
theorem ok_clbB (F : FnP K "climbs" sClb f fd) (T : NoS mg) : FnOk P w K mg base CX0 1 f fd ["items"] spClbB := by
  refine F.ok scCl (fun vs H Q E h => ?_) (fun cdv A outer s H vs Q E hr h => ?_)
  · obtain ⟨x, rfl, _⟩ := h
    rfl
  · obtain ⟨x, rfl, l1, l3, k⟩ := h
    refine ⟨_, PSs.nox (pss_one (ps_ret (pe_callB (cr_all rfl) (by rfl) T.all PyProof.Rows.boot_all (pa_cons (pe_lc (own := [("low", 1), ("high", 2)]) (g := gTup K 2 (gCons (gName 1) (gCons (gName 2) gNil))) (tt := tYes) (by rfl) scCl.nd (pi_zipM (by rfl) T.zip (pa_cons (pv 0) (pa_cons (pe_slice sl_str (pv 0) (po_some pe_int) po_none) pa_nil)))
          (blkOk_by (own := [("low", 1), ("high", 2)]) (N := ["items", "low", "high"]) (sc := defScope sClb) (by decide +kernel))
          (fun _ _ _ _ _ => pg_tup (by rfl) (pgs_cons (pg_name (i := 1) scCl.nd rfl (Or.inl rfl)) (pgs_cons (pg_name (i := 2) scCl.nd rfl (Or.inl rfl)) pgs_nil))) (fun _ _ _ _ _ => pts_nil) (fun _ _ _ _ _ => pe_cmpR op_lt_str (pv 1) (pv 2) (nomark _))) pa_nil)))), ?_⟩
    have hl : x.length = (sg x).length := by simp [Str.length, sg]
    have hzip : EvL (tLc (iZipM K (tCons (tVar 0) (tCons (tSl rSlS (tVar 0) (tPart (tC (.int 1))) tNoPart) tNil))) (gTup K 2 (gCons (gName 1) (gCons (gName 2) gNil))) tYes (tOp (fun x y H Q => ∃ i j, x = .str i ∧ y = .str j ∧ Q (.bl (decide (i.cps.toList < j.cps.toList))) H) (tVar 1) (tVar 2)) [1, 2])
        (L2.start ["items", "low", "high"] [V.str x]) H (((List.range (x.length - 1)).map (climbAt (sg x))).map V.bl) := by
      intro H2 e2 Q2 q2
      refine ⟨_, rfl, _, rfl, 1, rfl, x, rfl, Nat.le_of_lt (small1000 (by omega)), ?_⟩
      have c2 : (cutS x (some 1) none).cps.size = x.length - 1 := by
        have z := congrArg List.length (cut_tail x l1)
        rw [List.length_drop, ← hl] at z
        simpa using z
      refine ⟨_, _, _, _, _, _, _, _, rfl, .txt x, .txt _, fun D hD => ?_⟩
      refine lc_bls (n := x.length - 1) (climbAt (sg x)) hD (by omega) (fun i H3 _ hi => ⟨by show i < x.length; omega, by rw [c2]; exact hi, True.intro, True.intro⟩) (fun H3 _ => ⟨by show x.length - 1 ≤ x.length; omega, by rw [c2]; exact Nat.le_refl _, .inr c2.symm, True.intro, True.intro⟩) (fun i H3 y H4 e3 hi ⟨T', a, b, r, hT, r2, ⟨ca, ha, ra⟩, ⟨cb, hb, rb⟩⟩ => ?_) (g_two_mono 1 2) (fun H3 e3 h3 => q2 D H3 (by exact hD) e3 h3)
      subst r r2 ra rb
      refine ⟨Ex.new hT, T', _, rfl, SqT.of upd_same, rfl, _, _, rfl, _, _, rfl, rfl, rfl, rfl, fun Q3 q3 => ⟨_, rfl, _, rfl, _, _, rfl, rfl, ?_⟩⟩
      have h1 : (sg x)[i]? = some ca := by simpa [sg] using ha
      have h2 : (sg x)[i + 1]? = some cb := by
        have z : (cutS x (some 1) none).cps.toList[i]? = some cb := by simpa using hb
        rw [cut_tail x l1, List.getElem?_drop, Nat.add_comm] at z
        exact z
      have z : decide (([ca] : List Nat) < [cb]) = climbAt (sg x) i := by
        rw [lt_one]
        unfold climbAt
        rw [List.getD_eq_getElem?_getD, List.getD_eq_getElem?_getD, h1, h2]
        rfl
      show Q3 (.bl (decide (([ca] : List Nat) < [cb]))) _
      rw [z]
      exact q3 _ (Ex.refl _)
    have z := climb_all (sg x)
    rw [← hl] at z
    exact s_ret (ev_is (ev_allB hzip) (congrArg V.bl z)) fun H2 e2 => k H2 e2
theorem ok_alpA {fB : Addr} {fdB : FuncData} (F : FnP K "is_alphabet" sAlp f fd) (FB : FnP K "climbs" sClb fB fdB) (gB : mg "climbs" = some (.ref fB)) (T : NoS mg) (gM : ∃ t, mg "MOST_LETTERS" = some (.int 3 t)) : FnOk P w K mg base CX0 2 f fd ["value"] (spAlpA K) := by
  obtain ⟨tM, gM⟩ := gM
  have GB : FnOk P w K mg base CX0 1 fB fdB ["items"] spClbB := ok_clbB FB T
  have bB : Binds K fdB ["items"] [] := FB.bindsN fun _ _ _ _ _ _ us hl => match us, hl with | [_], _ => rfl
  refine F.ok scA (fun vs H Q E h => ?_) (fun cdv A outer s H vs Q E hr h => ?_)
  · obtain ⟨v, Tv, rfl, _⟩ := h
    rfl
  · obtain ⟨v, Tv, rfl, kv, h⟩ := h
    refine ⟨_, PSs.nox (pss_cons (ps_if (PW.pt (pw_or (pt_not (pt_val (pe_callB call_isi (by rfl) T.b.isi PyProof.Rows.boot_isinstance (pa_cons (pv 0) (pa_cons (pe_bltn (v := .ty "str") (by rfl) T.str (by decide +kernel) rfl) pa_nil)))))
        (pw_or1 (pt_not (pt_chain op_le op_le pe_int (pe_callB call_len_str (by rfl) T.len PySem.boot_len (pa_cons (pv 0) pa_nil)) (pe_glob (v := .int 3) rfl gM ⟨_, rfl⟩))))))
        (pss_one (ps_ret pe_bl)) pss_nil)
      (pss_one (ps_ret (pe_and (pe_call GB hr rfl gB FB.kp bB .nil pass0 (pa_cons (pv 0) pa_nil)) (pe_one (pe_callB (cr_all rfl) (by rfl) T.all PyProof.Rows.boot_all (pa_cons (pe_lc (own := [("letter", 1)]) (g := gName 1) (tt := tYes) (by rfl) scA.nd (pi_str (pv 0)) (blkOk_by (own := [("letter", 1)]) (N := ["value", "letter"]) (sc := defScope sAlp) (by decide +kernel))
          (fun _ _ _ _ _ => pg_name (i := 1) scA.nd rfl (Or.inl rfl)) (fun _ _ _ _ _ => pts_nil) (fun _ _ _ _ _ => pe_chain op_le_str op_le_str pe_str (pv 1) pe_str)) pa_nil))))))), ?_⟩
    rcases h with ⟨ns, k⟩ | ⟨x, rfl, rfl, l1000, k⟩
    · have hb : isB Tv "str" = false := by
        have z : ∀ S ∈ six, S ≠ "str" → isB S "str" = false := by decide
        exact z Tv kv.six ns
      refine s_if (b := true) (et_is (et_or (a := true) (b := false) (et_not (a := false) (et_is (et_B (ev_isi (ev_var rfl) kv)) hb)) (fun h => nomatch h)) rfl) (fun _ H1 e1 => ?_) (fun h => nomatch h)
      exact s_ret ev_c fun H2 e2 => k H2 (e1.trans e2)
    have hl : x.length = (sg x).length := by simp [Str.length, sg]
    have kx : Kn K H (.str x) "str" := kv
    refine s_if (b := !(decide (1 ≤ x.length) && decide (x.length ≤ 3))) (et_is (et_or (a := false) (b := !(decide (1 ≤ x.length) && decide (x.length ≤ 3))) (et_not (a := true) (et_B (ev_isi (ev_var rfl) kx))) (fun _ => et_not (a := decide (1 ≤ x.length) && decide (x.length ≤ 3)) ?_)) (by cases (decide (1 ≤ x.length) && decide (x.length ≤ 3)) <;> rfl)) (fun hb H1 e1 => ?_) (fun hb H1 e1 => ?_)
    · intro H2 e2 Q2 q2
      refine ⟨_, rfl, x, rfl, Nat.le_of_lt (small1000 (by omega)), _, _, rfl, rfl, _, rfl, ?_⟩
      have z1 : decide ((1 : Int) ≤ (x.length : Int)) = decide (1 ≤ x.length) := by
        rw [Bool.eq_iff_iff, decide_eq_true_iff, decide_eq_true_iff]
        omega
      have z2 : decide ((x.length : Int) ≤ (3 : Int)) = decide (x.length ≤ 3) := by
        rw [Bool.eq_iff_iff, decide_eq_true_iff, decide_eq_true_iff]
        omega
      rw [z1]
      cases hz : decide (1 ≤ x.length) with
      | true =>
        refine iteT ⟨_, _, rfl, rfl, decide (x.length ≤ 3), congrArg V.bl z2, ?_⟩
        have q := q2 H2 (Ex.refl H2)
        rw [hz, Bool.true_and] at q
        exact q
      | false =>
        refine iteF ?_
        have q := q2 H2 (Ex.refl H2)
        rw [hz, Bool.false_and] at q
        exact ⟨_, rfl, q⟩
    · refine s_ret ev_c fun H2 e2 => ?_
      have z : alphaB x = false := by
        unfold alphaB
        rw [← hl]
        rw [Bool.not_eq_true'] at hb
        rw [hb]
        rfl
      have q := k H2 (e1.trans e2)
      rw [z] at q
      exact q
    unfold tNext
    dsimp only
    rw [Bool.not_eq_false', Bool.and_eq_true, decide_eq_true_iff, decide_eq_true_iff] at hb
    obtain ⟨l1, l3⟩ := hb
    have z : alphaB x = (climbB (sg x) && lowB (sg x)) := by
      unfold alphaB
      rw [← hl, decide_eq_true l1, decide_eq_true l3]
      rfl
    rw [z] at k
    refine s_ret (v := .bl (climbB (sg x) && lowB (sg x))) (ev_is (ev_andV (a := climbB (sg x)) (b := lowB (sg x)) ?_ (fun _ => ev_is (ev_allB (bs := (List.range x.length).map fun i => (decide (97 ≤ (sg x).getD i 0) && decide ((sg x).getD i 0 ≤ 122))) ?_) ?_)) rfl) fun H3 e3 => k H3 (e1.trans e3)
    · intro H2 e2 Q2 q2
      exact ⟨_, rfl, x, rfl, l1, by omega, q2⟩
    · intro H3 e3 Q3 q3
      refine ⟨_, rfl, x, rfl, fun D hD => ?_⟩
      refine lc_bls (J := Its x) (n := x.length) (fun i => (decide (97 ≤ (sg x).getD i 0) && decide ((sg x).getD i 0 ≤ 122))) hD (by omega) (fun i H4 _ hi => hi) (fun H4 _ => Nat.le_refl _) (fun i H4 y H5 e4 hi ⟨r, c, hc, ry⟩ => ?_) (g_name_mono 1) (fun H4 e4 h4 => q3 D H4 hD e4 h4)
      subst r ry
      refine ⟨Ex.refl _, rfl, rfl, fun Q4 q4 => ?_⟩
      have hc2 : (sg x).getD i 0 = c := by
        have z : (sg x)[i]? = some c := by simpa [sg] using hc
        rw [List.getD_eq_getElem?_getD, z]
        rfl
      rw [hc2] at q4
      have z1 : (!decide (([c] : List Nat) < [97])) = decide (97 ≤ c) := by
        rw [lt_one, Bool.eq_iff_iff]
        simp
      have z2 : (!decide (([122] : List Nat) < [c])) = decide (c ≤ 122) := by
        rw [lt_one, Bool.eq_iff_iff]
        simp
      refine ⟨_, rfl, _, _, rfl, rfl, _, rfl, ?_⟩
      show if (!decide (([c] : List Nat) < [97])) then _ else _
      rw [z1]
      cases h97 : decide (97 ≤ c) with
      | true =>
        refine iteT ?_
        refine ⟨_, _, rfl, rfl, ?_⟩
        show Q4 (.bl (!decide (([122] : List Nat) < [c]))) _
        rw [z2]
        rw [h97, Bool.true_and] at q4
        exact q4 _ (Ex.refl _)
      | false =>
        refine iteF ?_
        rw [h97, Bool.false_and] at q4
        first | exact q4 _ (Ex.refl _) | exact ⟨_, rfl, q4 _ (Ex.refl _)⟩
    · rw [hl, List.all_map]
      have z2 : ∀ l : List Nat, ((List.range l.length).all fun i => (decide (97 ≤ l.getD i 0) && decide (l.getD i 0 ≤ 122))) = lowB l := fun l => by
        unfold lowB
        rw [Bool.eq_iff_iff, List.all_eq_true, List.all_eq_true]
        constructor
        · intro h c hc
          obtain ⟨i, hi, rfl⟩ := List.mem_iff_getElem.mp hc
          have := h i (List.mem_range.mpr hi)
          rw [List.getD_eq_getElem?_getD, List.getElem?_eq_getElem hi] at this
          exact this
        · intro h i hi
          have hi := List.mem_range.mp hi
          rw [List.getD_eq_getElem?_getD, List.getElem?_eq_getElem hi]
          exact h _ (List.getElem_mem hi)
      exact congrArg V.bl (z2 (sg x))
theorem alpha_of {x : Str} (h : alphaB x = true) : AlphaOk x := by
  unfold alphaB at h
  rw [Bool.and_eq_true, Bool.and_eq_true, Bool.and_eq_true, decide_eq_true_iff, decide_eq_true_iff] at h
  obtain ⟨⟨h1, h2⟩, h3, h4⟩ := h
  refine ⟨h1, h2, ?_, fun c hc => ?_⟩
  · have key : ∀ (l : List Nat), climbB l = true → ∀ k a b, l[k]? = some a → l[k + 1]? = some b → a < b := by
      intro l
      induction l with
      | nil => intro _ k a b h; cases h
      | cons x l ih =>
        intro h k a b g1 g2
        cases l with
        | nil => simp at g2
        | cons y r =>
          unfold climbB at h
          rw [Bool.and_eq_true, decide_eq_true_iff] at h
          cases k with
          | zero => cases g1; cases g2; exact h.1
          | succ k => exact ih h.2 k a b (by simpa using g1) (by simpa using g2)
    exact key _ h3
  · have z := List.all_eq_true.mp h4 c hc
    rw [Bool.and_eq_true, decide_eq_true_iff, decide_eq_true_iff] at z
    exact z
end
end K03

-- base: law_k02_machines_refused
/-! is_index and is_goals of any value -/
namespace K03
open PySem L2 Evl OxK
/-- what is_index tells of any value -/
def IxOf (K : PySem.W.Frag) (H : Hp) (v : V) (n : Int) (b : Bool) : Prop := (Flat v ∧ b = isIx v n) ∨ ∃ T, Kn K H v T ∧ T ≠ "int" ∧ b = false
theorem IxOf.ex {K : PySem.W.Frag} {H H' : Hp} {v : V} {n : Int} {b : Bool} (h : IxOf K H v n b) (e : Ex H H') : IxOf K H' v n b := h.imp id fun ⟨T, k, t, z⟩ => ⟨T, k.ex e, t, z⟩
def spIdxA (K : PySem.W.Frag) : Sp := fun vs H Q _ => ∃ (v : V) (n : Int) (b : Bool), vs = [v, .int n] ∧ IxOf K H v n b ∧ ∀ H', Ex H H' → Q (.bl b) H'
/-- a list or a tuple, or no list at all -/
def GlOf (K : PySem.W.Frag) (H : Hp) (v : V) (L n : Int) (b : Bool) : Prop := (∃ T, Kn K H v T ∧ (isB T "list" || isB T "tuple") = false ∧ b = false) ∨
  ∃ (a : Addr) (xs : List V) (bs : List Bool), v = .ref a ∧ (H a = some (.lst xs) ∨ H a = some (.tup xs)) ∧ xs.length ≤ 1000 ∧ bs.length = xs.length ∧ (∀ (i : Nat) (x : V) (c : Bool), xs[i]? = some x → bs[i]? = some c → IxOf K H x n c) ∧ b = (decide ((xs.length : Int) = L) && bs.all id)
theorem GlOf.ex {K : PySem.W.Frag} {H H' : Hp} {v : V} {L n : Int} {b : Bool} (h : GlOf K H v L n b) (e : Ex H H') : GlOf K H' v L n b := by
  rcases h with ⟨T, k, t, z⟩ | ⟨a, xs, bs, r, hk, few, hl, hb, z⟩
  · exact .inl ⟨T, k.ex e, t, z⟩
  · exact .inr ⟨a, xs, bs, r, hk.imp (e _ _) (e _ _), few, hl, fun i x c h1 h2 => (hb i x c h1 h2).ex e, z⟩
def spGlsA (K : PySem.W.Frag) : Sp := fun vs H Q _ => ∃ (v : V) (L n : Int) (b : Bool), vs = [v, .int L, .int n] ∧ GlOf K H v L n b ∧ ∀ H', Ex H H' → Q (.bl b) H'
section
variable {P : Program} {w : World} {K : PySem.W.Frag} {mg : Str → Option Value} {base : Heap} {f : Addr} {fd : FuncData}
theorem ok_idxA {fN : Addr} {fdN : FuncData} (F : FnP K "is_index" sIdx f fd) (FN : FnP K "is_number" sNum fN fdN) (T : NoS mg) (gN : mg "is_number" = some (.ref fN)) : FnOk P w K mg base CX0 2 f fd ["value", "size"] (spIdxA K) := by
  have GN : FnOk P w K mg base CX0 1 fN fdN ["value"] (spNum K) := ok_num FN T
  have G0 : FnOk P w K mg base CX0 2 f fd ["value", "size"] (spIdx K) := ok_idx F FN T gN
  have bN : Binds K fdN ["value"] [] := FN.bindsN fun _ _ _ _ _ _ us hl => match us, hl with | [_], _ => rfl
  have G1 : FnOk P w K mg base CX0 2 f fd ["value", "size"] (fun vs H Q _ => ∃ (v : V) (n : Int) (T : String), vs = [v, .int n] ∧ Kn K H v T ∧ T ≠ "int" ∧ ∀ H', Ex H H' → Q (.bl false) H') := by
    refine F.ok scX (fun vs H Q E h => ?_) (fun cdv A outer s H vs Q E hr h => ?_)
    · obtain ⟨v, n, T, rfl, _⟩ := h
      rfl
    · obtain ⟨v, n, Tv, rfl, kv, nt, k⟩ := h
      refine ⟨_, PSs.nox (pss_one (ps_ret (pe_and (pe_call GN hr rfl gN FN.kp bN .nil pass0 (pa_cons (pv 0) pa_nil)) (pe_one (pe_chain op_le op_lt pe_int (pv 0) (pv 1)))))), ?_⟩
      refine ⟨_, rfl, v, Tv, rfl, kv, fun H1 e1 => ⟨_, rfl, ?_⟩⟩
      rw [decide_eq_false nt]
      exact iteF (k H1 e1)
  refine ⟨fun vs H Q E h => ?_, fun A outer s H args us vs Q E hr he hb hv h => ?_⟩
  · obtain ⟨v, n, b, rfl, _⟩ := h
    rfl
  · obtain ⟨v, n, b, rfl, ⟨fv, rfl⟩ | ⟨Tv, kv, nt, rfl⟩, k⟩ := h
    · exact G0.run A outer s H args us _ Q E hr he hb hv ⟨v, n, rfl, fv, k⟩
    · exact G1.run A outer s H args us _ Q E hr he hb hv ⟨v, n, Tv, rfl, kv, nt, k⟩
theorem ok_glsA {fX fL : Addr} {fdX fdL : FuncData} (F : FnP K "is_goals" sGls f fd) (T : NoS mg)
    (GX : FnOk P w K mg base CX0 2 fX fdX ["value", "size"] (spIdxA K)) (gX : mg "is_index" = some (.ref fX)) (kX : PySem.W.keepIn K (.ref fX) = true) (bX : Binds K fdX ["value", "size"] [])
    (GL : FnOk P w K mg base CX0 1 fL fdL ["value"] (spLst K)) (gL : mg "is_list" = some (.ref fL)) (kL : PySem.W.keepIn K (.ref fL) = true) (bL : Binds K fdL ["value"] []) : FnOk P w K mg base CX0 3 f fd ["value", "letters", "states"] (spGlsA K) := by
  refine F.ok scG (fun vs H Q E h => ?_) (fun cdv A outer s H vs Q E hr h => ?_)
  · obtain ⟨v, L, n, b, rfl, _⟩ := h
    rfl
  · obtain ⟨v, L, n, b, rfl, h, k⟩ := h
    refine ⟨_, PSs.nox (pss_one (ps_ret (pe_and (pe_call GL (hr.mono (by decide)) rfl gL kL bL .nil pass0 (pa_cons (pv 0) pa_nil)) (pe_and (pe_cmpR op_eq (pe_callB call_len_seq (by rfl) T.len PySem.boot_len (pa_cons (pv 0) pa_nil)) (pv 1) (nomark _))
      (pe_one (pe_callB (cr_all rfl) (by rfl) T.all PyProof.Rows.boot_all (pa_cons (pe_lc (own := [("goal", 3)]) (g := gName 3) (tt := tYes) (by rfl) scG.nd (pi_or (pi_list (pv 0)) (pi_tup (pv 0))) (blkOk_by (own := [("goal", 3)]) (N := ["value", "letters", "states", "goal"]) (sc := defScope sGls) (by decide +kernel))
        (fun _ _ _ _ _ => pg_name (i := 3) scG.nd rfl (Or.inl rfl)) (fun _ _ _ _ _ => pts_nil) (fun _ _ _ _ _ => pe_call GX (hr.mono (by decide)) rfl gX kX bX .nil pass0 (pa_cons (pv 3) (pa_cons (pv 2) pa_nil)))) pa_nil))))))), ?_⟩
    rcases h with ⟨Tv, kv, hb, rfl⟩ | ⟨a, xs, bs, rfl, ha, few, hbl, hix, rfl⟩
    · refine ⟨_, rfl, v, Tv, rfl, kv, fun H1 e1 => ⟨_, rfl, ?_⟩⟩
      rw [hb]
      exact iteF (k H1 e1)
    · have hk : ∃ T, Kn K H (.ref a) T ∧ (isB T "list" || isB T "tuple") = true := by
        rcases ha with ha | ha
        · exact ⟨_, kn_lst ha, rfl⟩
        · exact ⟨_, kn_tup ha, rfl⟩
      obtain ⟨Tv, kv, hb⟩ := hk
      refine ⟨_, rfl, .ref a, Tv, rfl, kv, fun H1 e1 => ⟨_, rfl, ?_⟩⟩
      rw [hb]
      refine iteT ?_
      have hs : SqL K H1 a xs ∨ SqT K H1 a xs := ha.imp (fun h => SqL.of (e1 _ _ h)) (fun h => SqT.of (e1 _ _ h))
      refine ⟨_, rfl, a, xs, rfl, hs, _, rfl, rfl, _, rfl, ?_⟩
      by_cases hlen : (xs.length : Int) = L
      · have z1 : decide (V.int (xs.length : Int) = V.int L) = true := decide_eq_true (by rw [hlen])
        rw [z1]
        refine iteT ?_
        rw [decide_eq_true hlen] at k
        simp only [Bool.true_and] at k
        have step : ∀ (D : Addr) (i : Nat) (x : V) (H' : Hp) (σ : L2.St), H1 D = none → xs[i]? = some x → Ex H1 H' → H' D = some (.lst ((bs.take i).map V.bl)) → σ[3]? = some (some x) → σ[2]? = some (some (.int n)) →
            tCall (spIdxA K) [] E0 (tCons (tVar 3) (tCons (tVar 2) tNil)) σ H' fun y H4 => ∃ acc, H4 D = some (.lst acc) ∧ acc.length < sizeLine ∧ Ex H1 (upd H4 D (.lst (acc ++ [y]))) ∧ upd H4 D (.lst (acc ++ [y])) D = some (.lst ((bs.take (i + 1)).map V.bl)) := by
          intro D i x H' σ hD hx e4 hD' s3 s2
          have hi : i < bs.length := by rw [hbl]; exact (List.getElem?_eq_some_iff.mp hx).1
          have hc : bs[i]? = some bs[i] := List.getElem?_eq_getElem hi
          refine ⟨_, s3, _, s2, x, n, bs[i], rfl, (hix i x _ hx hc).ex (e1.trans e4), fun H5 e5 => ?_⟩
          refine ⟨_, e5 _ _ hD', small1000 (by rw [List.length_map, List.length_take]; omega), Ex.mut (e4.trans e5) hD, ?_⟩
          rw [upd_same, List.take_add_one, hc, List.map_append]
          rfl
        have done : ∀ (D : Addr) (H' : Hp), Ex H1 H' → H' D = some (.lst ((bs.take xs.length).map V.bl)) → ∃ (p : Addr) (cs : List Bool), [V.ref D] = [V.ref p] ∧ SqL K H' p (cs.map V.bl) ∧ Q (.bl (cs.all id)) H' := by
          intro D H' e4 hD'
          rw [← hbl, List.take_length] at hD'
          exact ⟨D, bs, rfl, SqL.of hD', k H' (e1.trans e4)⟩
        rcases ha with ha | ha
        · refine .inl ⟨_, rfl, a, rfl, ⟨_, SqL.of (e1 _ _ ha)⟩, fun D hD => lc_list (K := K) (a := a) (xs := xs) (fun i H' => Ex H1 H' ∧ H' D = some (.lst ((bs.take i).map V.bl))) ⟨Ex.new hD, upd_same⟩ ?_ ?_ ?_⟩
          · rintro i H' hi ⟨e4, _⟩
            exact SqL.of ((e1.trans e4) _ _ ha)
          · rintro i x H' hx ⟨e4, hD'⟩
            exact ⟨rfl, tt_yes (step D i x H' _ hD hx e4 hD' rfl rfl)⟩
          · rintro H' ⟨e4, hD'⟩
            exact done D H' e4 hD'
        · refine .inr ⟨_, rfl, a, rfl, ⟨_, SqT.of (e1 _ _ ha)⟩, fun D hD => lc_tup (K := K) (a := a) (xs := xs) (fun i H' => Ex H1 H' ∧ H' D = some (.lst ((bs.take i).map V.bl))) ⟨Ex.new hD, upd_same⟩ ?_ ?_ ?_⟩
          · rintro i H' hi ⟨e4, _⟩
            exact SqT.of ((e1.trans e4) _ _ ha)
          · rintro i x H' hx ⟨e4, hD'⟩
            exact ⟨rfl, tt_yes (step D i x H' _ hD hx e4 hD' rfl rfl)⟩
          · rintro H' ⟨e4, hD'⟩
            exact done D H' e4 hD'
      · have z1 : decide (V.int (xs.length : Int) = V.int L) = false := decide_eq_false fun q => hlen (V.int.inj q)
        rw [z1]
        refine iteF ?_
        have z := k H1 e1
        rw [decide_eq_false hlen, Bool.false_and] at z
        exact z
end
end K03

-- base: law_k66_errors_by_themselves
/-! InvalidState, raised -/
namespace K03
open PySem L2 Evl OxK
section
variable {P : Program} {w : World} {K : PySem.W.Frag} {mg : Str → Option Value} {base : Heap} {f fC C : Addr} {fd fdC : FuncData}
abbrev FIInvalidState (K : PySem.W.Frag) (f : Addr) (fd : FuncData) : Prop := FunD K "__init__" "InvalidState.__init__" (defArgs iInvalidState) (defBody iInvalidState) (defScope iInvalidState) [] [] f fd
theorem sxInvalidState : FnScope ["self", "given"] ["self", "given"] (defScope iInvalidState) := ⟨rfl, rfl, rfl, by decide +kernel, rfl, by decide +kernel, by decide +kernel⟩
theorem okxInvalidState (n : Nat) {fI : Addr} (F : FIInvalidState K f fd) (T : RaC K mg "InvalidState" C fI)
    (GC : FnOk P w K mg base CX0 (n + 1) fC fdC ["value"] (spCpN n)) (gC : mg "copied" = some (.ref fC)) (kC : PySem.W.keepIn K (.ref fC) = true) (bC : Binds K fdC ["value"] []) : FnOk P w K mg base CX0 (n + 2) f fd ["self", "given"] (spX n C "InvalidState" "given") := by
  refine F.ok sxInvalidState (fun vs H Q E h => ?_) (fun cdv A outer s H vs Q E hr h => ⟨t_initN K n "InvalidState" "given", PSs.nox (pss_cons (ps_xst (pv 0) pe_str) (pss_one (ps_xst (pv 0) (pe_call GC hr rfl gC kC bC .nil pass0 (pa_cons (pv 1) pa_nil))))), pure_initN n "InvalidState" "given" T.exc (T.tag.no _ (by decide)) (T.tag.no _ (by decide)) h⟩)
  obtain ⟨a, v, d, H0, rfl, _⟩ := h
  rfl
theorem bxInvalidState (F : FIInvalidState K f fd) : Binds K fd ["self", "given"] [] := F.bindsN fun _ _ _ _ _ _ us hl => match us, hl with | [_, _], _ => rfl
end
end K03

-- base: law_k66_errors_by_themselves
/-! InvalidWord, raised -/
namespace K03
open PySem L2 Evl OxK
section
variable {P : Program} {w : World} {K : PySem.W.Frag} {mg : Str → Option Value} {base : Heap} {f fC C : Addr} {fd fdC : FuncData}
abbrev FIInvalidWord (K : PySem.W.Frag) (f : Addr) (fd : FuncData) : Prop := FunD K "__init__" "InvalidWord.__init__" (defArgs iInvalidWord) (defBody iInvalidWord) (defScope iInvalidWord) [] [] f fd
theorem sxInvalidWord : FnScope ["self", "given"] ["self", "given"] (defScope iInvalidWord) := ⟨rfl, rfl, rfl, by decide +kernel, rfl, by decide +kernel, by decide +kernel⟩
theorem okxInvalidWord (n : Nat) {fI : Addr} (F : FIInvalidWord K f fd) (T : RaC K mg "InvalidWord" C fI)
    (GC : FnOk P w K mg base CX0 (n + 1) fC fdC ["value"] (spCpN n)) (gC : mg "copied" = some (.ref fC)) (kC : PySem.W.keepIn K (.ref fC) = true) (bC : Binds K fdC ["value"] []) : FnOk P w K mg base CX0 (n + 2) f fd ["self", "given"] (spX n C "InvalidWord" "given") := by
  refine F.ok sxInvalidWord (fun vs H Q E h => ?_) (fun cdv A outer s H vs Q E hr h => ⟨t_initN K n "InvalidWord" "given", PSs.nox (pss_cons (ps_xst (pv 0) pe_str) (pss_one (ps_xst (pv 0) (pe_call GC hr rfl gC kC bC .nil pass0 (pa_cons (pv 1) pa_nil))))), pure_initN n "InvalidWord" "given" T.exc (T.tag.no _ (by decide)) (T.tag.no _ (by decide)) h⟩)
  obtain ⟨a, v, d, H0, rfl, _⟩ := h
  rfl
theorem bxInvalidWord (F : FIInvalidWord K f fd) : Binds K fd ["self", "given"] [] := F.bindsN fun _ _ _ _ _ _ us hl => match us, hl with | [_, _], _ => rfl
end
end K03

-- base: law_k03_words_and_far_words
/-! is_word of any value; require_state, require_word that raise -/
namespace K03
open PySem L2 Evl OxK
def occB (x : Str) (c : Nat) : Bool := !(Builtin.Str.occurrences x ⟨#[c]⟩ 0 x.length 1).isEmpty
def wordB (x w : Str) : Bool := (sg w).all (occB x)
def spWdA (K : PySem.W.Frag) : Sp := fun vs H Q _ => ∃ (v : V) (x : Str) (T : String), vs = [v, .str x] ∧ Kn K H v T ∧ ((T ≠ "str" ∧ ∀ H', Ex H H' → Q (.bl false) H') ∨ ∃ w : Str, v = .str w ∧ T = "str" ∧ w.length ≤ 1000 ∧ ∀ H', Ex H H' → Q (.bl (wordB x w)) H')
/-- no word -/
def NoWd (K : PySem.W.Frag) (H : Hp) (x : Str) (v : V) : Prop := ∃ T, Kn K H v T ∧ (T ≠ "str" ∨ ∃ w : Str, v = .str w ∧ T = "str" ∧ w.length ≤ 1000 ∧ wordB x w = false)
theorem NoWd.ex {K : PySem.W.Frag} {H H' : Hp} {x : Str} {v : V} (h : NoWd K H x v) (e : Ex H H') : NoWd K H' x v := by
  obtain ⟨T, k, q⟩ := h
  exact ⟨T, k.ex e, q⟩
def spRqsX (K : PySem.W.Frag) (C : Addr) (n : Nat) (CS : Addr) : Sp := fun vs H Q E => ∃ (s : Addr) (x : Str) (rows : List (List Nat)) (v : V) (d : Dt), vs = [.ref s, v] ∧ IsM K C H s x rows ∧ IxOf K H v (rows.length : Int) false ∧ Has H n v d ∧ Rz n CS "InvalidState" "given" d H E
def spRqwX (K : PySem.W.Frag) (C : Addr) (n : Nat) (CW : Addr) : Sp := fun vs H Q E => ∃ (s : Addr) (x : Str) (rows : List (List Nat)) (v : V) (d : Dt), vs = [.ref s, v] ∧ IsM K C H s x rows ∧ NoWd K H x v ∧ Has H n v d ∧ Rz n CW "InvalidWord" "given" d H E
section
variable {P : Program} {w : World} {K : PySem.W.Frag} {mg : Str → Option Value} {base : Heap} {f : Addr} {fd : FuncData}
theorem ok_wdA (F : FnP K "is_word" sWd f fd) (T : NoS mg) : FnOk P w K mg base CX0 1 f fd ["value", "alphabet"] (spWdA K) := by
  refine F.ok scWd (fun vs H Q E h => ?_) (fun cdv A outer s H vs Q E hr h => ?_)
  · obtain ⟨v, x, Tv, rfl, _⟩ := h
    rfl
  · obtain ⟨v, x, Tv, rfl, kv, h⟩ := h
    refine ⟨_, PSs.nox (pss_one (ps_ret (pe_and (pe_callB call_isi (by rfl) T.b.isi PyProof.Rows.boot_isinstance (pa_cons (pv 0) (pa_cons (pe_bltn (v := .ty "str") (by rfl) T.str (by decide +kernel) rfl) pa_nil)))
      (pe_one (pe_callB (cr_all rfl) (by rfl) T.all PyProof.Rows.boot_all (pa_cons (pe_lc (own := [("letter", 2)]) (g := gName 2) (tt := tYes) (by rfl) scWd.nd (pi_str (pv 0)) (blkOk_by (own := [("letter", 2)]) (N := ["value", "alphabet", "letter"]) (sc := defScope sWd) (by decide +kernel))
          (fun _ _ _ _ _ => pg_name (i := 2) scWd.nd rfl (Or.inl rfl)) (fun _ _ _ _ _ => pts_nil) (fun _ _ _ _ _ => pe_cmpR op_in_str (pv 2) (pv 1) (by with_unfolding_all rfl))) pa_nil)))))), ?_⟩
    rcases h with ⟨ns, k⟩ | ⟨wd, rfl, rfl, few, k⟩
    · have hb : isB Tv "str" = false := by
        have z : ∀ S ∈ six, S ≠ "str" → isB S "str" = false := by decide
        exact z Tv kv.six ns
      exact s_ret (v := .bl false) (ev_is (ev_andV (a := false) (b := false) (ev_is (ev_isi (ev_var rfl) kv) (congrArg V.bl hb)) (fun h => nomatch h)) rfl) fun H3 e3 => k H3 e3
    have hl : wd.length = (sg wd).length := by simp [Str.length, sg]
    refine s_ret (v := .bl (wordB x wd)) (ev_is (ev_andV (a := true) (b := wordB x wd) (ev_isi (ev_var rfl) kv) (fun _ => ev_is (ev_allB (bs := (List.range wd.length).map fun i => occB x ((sg wd).getD i 0)) ?_) ?_)) rfl) fun H3 e3 => k H3 e3
    · intro H3 e3 Q3 q3
      refine ⟨_, rfl, wd, rfl, fun D hD => ?_⟩
      refine lc_bls (J := Its wd) (n := wd.length) (fun i => occB x ((sg wd).getD i 0)) hD (by omega) (fun i H4 _ hi => hi) (fun H4 _ => Nat.le_refl _) (fun i H4 y H5 e4 hi ⟨r, c, hc, ry⟩ => ?_) (g_name_mono 2) (fun H4 e4 h4 => q3 D H4 hD e4 h4)
      subst r ry
      refine ⟨Ex.refl _, rfl, rfl, fun Q4 q4 => ?_⟩
      have hm : (sg wd).getD i 0 = c := by
        have z : (sg wd)[i]? = some c := by simpa [sg] using hc
        rw [List.getD_eq_getElem?_getD, z]
        rfl
      rw [hm] at q4
      exact ⟨_, rfl, _, rfl, _, _, rfl, rfl, q4 _ (Ex.refl _)⟩
    · refine congrArg V.bl ?_
      rw [List.all_map, hl]
      unfold wordB
      rw [Bool.eq_iff_iff, List.all_eq_true, List.all_eq_true]
      constructor
      · intro h c hc
        obtain ⟨i, hi, rfl⟩ := List.mem_iff_getElem.mp hc
        have := h i (List.mem_range.mpr hi)
        simp only [Function.comp, id, List.getD_eq_getElem?_getD, List.getElem?_eq_getElem hi] at this
        exact this
      · intro h i hi
        have hi := List.mem_range.mp hi
        simp only [Function.comp, id, List.getD_eq_getElem?_getD, List.getElem?_eq_getElem hi]
        exact h _ (List.getElem_mem hi)
theorem ok_rqsX {fX C CS iS : Addr} {fdX fdIS : FuncData} {n : Nat} (F : FunD K "require_state" "Machine.require_state" (defArgs sRqs) (defBody sRqs) (defScope sRqs) [] [] f fd)
    (GX : FnOk P w K mg base CX0 2 fX fdX ["value", "size"] (spIdxA K)) (gX : mg "is_index" = some (.ref fX)) (kX : PySem.W.keepIn K (.ref fX) = true) (bX : Binds K fdX ["value", "size"] []) (T : NoS mg) (MC : MCls K C)
    (TS : RaC K mg "InvalidState" CS iS) (GIS : FnOk P w K mg base CX0 (n + 2) iS fdIS ["self", "given"] (spX n CS "InvalidState" "given")) (bIS : Binds K fdIS ["self", "given"] []) :
    FnOk P w K mg base (L2.CX P w) (n + 4) f fd ["self", "state"] (spRqsX K C n CS) := by
  refine F.ok scRqs (fun vs H Q E h => ?_) (fun cdv A outer s H vs Q E hr h => ?_)
  · obtain ⟨s, x, rows, v, d, rfl, _⟩ := h
    rfl
  · obtain ⟨se, x, rows, v, d, rfl, ⟨dx, r, da, hs, ⟨bs, hB, bl, hR⟩, hd⟩, ix, hv, k⟩ := h
    refine ⟨_, pss_one (ps_if (pt_not (pt_val (pe_call GX (hr.mono (by omega)) rfl gX kX bX .nil pass0 (pa_cons (pv 1) (pa_cons (pe_callB call_len_seq (by rfl) T.len PySem.boot_len (pa_cons (pe_fld (pv 0) rfl) pa_nil)) pa_nil))))) (pss_one (ps_rz TS GIS hr bIS rfl (takes_of rfl rfl rfl rfl) rfl (pv 1))) pss_nil), ?_⟩
    refine s_if (b := true) (et_not (a := false) (et_B ?_)) (fun _ H1 e1 => rz_eh (d := d) (fun Q q => ⟨_, rfl, q _ _ (Ex.refl _) (hv.ex e1)⟩) fun dd H' v' e' h1 h2 => k dd H' v' (e1.trans e') h1 (h2.ex (nw_mono e1))) (fun h => nomatch h)
    intro H1 e1 Q1 q1
    refine ⟨_, rfl, _, rfl, se, C, dx, _, .ref r, rfl, e1 _ _ hs, MC.c, MC.r, rfl, r, bs.map V.ref, rfl, .inr (ex_t e1 hB), ?_⟩
    refine ⟨v, _, false, rfl, ?_, q1⟩
    rw [List.length_map, bl]
    exact ix.ex e1
theorem ok_rqwX {fW C CW iW : Addr} {fdW fdIW : FuncData} {n : Nat} (F : FunD K "require_word" "Machine.require_word" (defArgs sRqw) (defBody sRqw) (defScope sRqw) [] [] f fd)
    (GW : FnOk P w K mg base CX0 1 fW fdW ["value", "alphabet"] (spWdA K)) (gW : mg "is_word" = some (.ref fW)) (kW : PySem.W.keepIn K (.ref fW) = true) (bW : Binds K fdW ["value", "alphabet"] []) (MC : MCls K C)
    (TW : RaC K mg "InvalidWord" CW iW) (GIW : FnOk P w K mg base CX0 (n + 2) iW fdIW ["self", "given"] (spX n CW "InvalidWord" "given")) (bIW : Binds K fdIW ["self", "given"] []) :
    FnOk P w K mg base (L2.CX P w) (n + 4) f fd ["self", "word"] (spRqwX K C n CW) := by
  refine F.ok scRqw (fun vs H Q E h => ?_) (fun cdv A outer s H vs Q E hr h => ?_)
  · obtain ⟨s, x, rows, v, d, rfl, _⟩ := h
    rfl
  · obtain ⟨se, x, rows, v, d, rfl, ⟨dx, r, da, hs, _, hd⟩, ⟨Tv, kv, hT⟩, hv, k⟩ := h
    refine ⟨_, pss_one (ps_if (pt_not (pt_val (pe_call GW (hr.mono (by omega)) rfl gW kW bW .nil pass0 (pa_cons (pv 1) (pa_cons (pe_fld (pv 0) rfl) pa_nil))))) (pss_one (ps_rz TW GIW hr bIW rfl (takes_of rfl rfl rfl rfl) rfl (pv 1))) pss_nil), ?_⟩
    refine s_if (b := true) (et_not (a := false) (et_B ?_)) (fun _ H1 e1 => rz_eh (d := d) (fun Q q => ⟨_, rfl, q _ _ (Ex.refl _) (hv.ex e1)⟩) fun dd H' v' e' h1 h2 => k dd H' v' (e1.trans e') h1 (h2.ex (nw_mono e1))) (fun h => nomatch h)
    intro H1 e1 Q1 q1
    refine ⟨_, rfl, _, rfl, se, C, dx, _, .str x, rfl, e1 _ _ hs, MC.c, MC.s, rfl, v, x, Tv, rfl, kv.ex e1, ?_⟩
    rcases hT with nT | ⟨wd, rfl, rfl, wl, hw⟩
    · exact .inl ⟨nT, q1⟩
    · refine .inr ⟨wd, rfl, rfl, wl, ?_⟩
      rw [hw]
      exact q1
end
end K03

-- base: law_k03_words_and_far_words
/-! Machine.behind, Machine.word_to that raise -/
namespace K03
open PySem L2 Evl OxK
def spRqsE (K : PySem.W.Frag) (C : Addr) (n : Nat) (CS : Addr) : Sp := fun vs H Q E => spRqs K C vs H Q E ∨ spRqsX K C n CS vs H Q E
def spRqwE (K : PySem.W.Frag) (C : Addr) (n : Nat) (CW : Addr) : Sp := fun vs H Q E => spRqw K C vs H Q E ∨ spRqwX K C n CW vs H Q E
def spBhX (K : PySem.W.Frag) (C : Addr) (n : Nat) (CS CW : Addr) : Sp := fun vs H Q E => ∃ (s : Addr) (x : Str) (rows : List (List Nat)) (v y : V), vs = [.ref s, v, y] ∧ IsM K C H s x rows ∧
  ((IxOf K H y (rows.length : Int) false ∧ ∃ d, Has H n y d ∧ Rz n CS "InvalidState" "given" d H E) ∨ ((∃ st : Nat, y = .int (st : Int) ∧ st < rows.length) ∧ NoWd K H x v ∧ ∃ d, Has H n v d ∧ Rz n CW "InvalidWord" "given" d H E))
section
variable {P : Program} {w : World} {K : PySem.W.Frag} {mg : Str → Option Value} {base : Heap} {f : Addr} {fd : FuncData}
theorem ok_bhX {C CS CW fS fW : Addr} {fdS fdW : FuncData} {n : Nat} (F : FunD K "behind" "Machine.behind" (defArgs sBh) (defBody sBh) (defScope sBh) [] [("state", .int 0)] f fd) (MC : MCls K C)
    (mS : Meth K C "require_state" fS) (GS : FnOk P w K mg base (L2.CX P w) (n + 4) fS fdS ["self", "state"] (spRqsE K C n CS)) (bS : Binds K fdS ["self", "state"] [])
    (mW : Meth K C "require_word" fW) (GW : FnOk P w K mg base (L2.CX P w) (n + 4) fW fdW ["self", "word"] (spRqwE K C n CW)) (bW : Binds K fdW ["self", "word"] []) :
    FnOk P w K mg base (L2.CX P w) (n + 5) f fd ["self", "word", "state"] (spBhX K C n CS CW) := by
  refine F.ok scBh (fun vs H Q E h => ?_) (fun cdv A outer s H vs Q E hr h => ?_)
  · obtain ⟨s, x, rows, v, y, rfl, _⟩ := h
    rfl
  · obtain ⟨se, x, rows, v, y, rfl, im, h⟩ := h
    refine ⟨_, (pss_cons (ps_expr (pe_meth (pv 0) MC.c mS GS hr bS .nil (passes_call (E := E) (takes_of rfl rfl rfl rfl) (fun _ _ _ _ h => h)) (pa_cons (pv 2) pa_nil)))
      (pss_cons (ps_expr (pe_meth (pv 0) MC.c mW GW hr bW .nil (passes_call (E := E) (takes_of rfl rfl rfl rfl) (fun _ _ _ _ h => h)) (pa_cons (pv 1) pa_nil)))
      (pss_one ps_never))), ?_⟩
    obtain ⟨dx, r, da, hs, r1⟩ := id im
    rcases h with ⟨ix, d, hd, k⟩ | ⟨⟨st, rfl, lt⟩, nw, d, hd, k⟩
    · exact ⟨_, rfl, se, dx, _, rfl, hs, rfl, _, rfl, .inr ⟨se, x, rows, y, d, rfl, im, ix, hd, k⟩⟩
    · refine ⟨_, rfl, se, dx, _, rfl, hs, rfl, _, rfl, .inl ⟨se, x, rows, st, rfl, im, lt, fun H1 e1 => ?_⟩⟩
      exact ⟨_, rfl, se, dx, _, rfl, e1 _ _ hs, rfl, _, rfl, .inr ⟨se, x, rows, v, d, rfl, sqt_ex im e1, nw.ex e1, hd.ex e1, k.ex e1⟩⟩
theorem scWto : FnScope ["self", "state"] ["self", "state"] (defScope sWto) := ⟨rfl, rfl, rfl, by decide +kernel, rfl, by decide +kernel, by decide +kernel⟩
theorem ok_mwtX {C CS fS : Addr} {fdS : FuncData} {n : Nat} (F : FunD K "word_to" "Machine.word_to" (defArgs sWto) (defBody sWto) (defScope sWto) [] [] f fd) (MC : MCls K C)
    (mS : Meth K C "require_state" fS) (GS : FnOk P w K mg base (L2.CX P w) (n + 4) fS fdS ["self", "state"] (spRqsX K C n CS)) (bS : Binds K fdS ["self", "state"] []) : FnOk P w K mg base (L2.CX P w) (n + 5) f fd ["self", "state"] (spRqsX K C n CS) := by
  refine F.ok scWto (fun vs H Q E h => ?_) (fun cdv A outer s H vs Q E hr h => ?_)
  · obtain ⟨s, x, rows, v, d, rfl, _⟩ := h
    rfl
  · obtain ⟨se, x, rows, v, d, rfl, im, ix, hd, k⟩ := h
    refine ⟨_, (pss_cons (ps_expr (pe_meth (pv 0) MC.c mS GS hr bS .nil (passes_call (E := E) (takes_of rfl rfl rfl rfl) (fun _ _ _ _ h => h)) (pa_cons (pv 1) pa_nil))) (pss_one ps_never)), ?_⟩
    obtain ⟨dx, r, da, hs, r1⟩ := id im
    exact ⟨_, rfl, se, dx, _, rfl, hs, rfl, _, rfl, se, x, rows, v, d, rfl, im, ix, hd, k⟩
end
end K03

-- base: law_k09_whole_distances
/-! == of data of any depth, as Python sees it -/
namespace K03
open PySem L2 Evl OxK
mutual
def pyD : Dt → PyData
  | .f .non => .none
  | .f (.bl b) => .bool b
  | .f (.int i) => .int i
  | .f (.str x) => .str x
  | .f _ => .none
  | .l xs => .list (pyL xs)
  | .t xs => .tuple (pyL xs)
def pyL : List Dt → List PyData
  | [] => []
  | d :: ds => pyD d :: pyL ds
end
theorem dp_flat {K : PySem.W.Frag} {H : Hp} : ∀ {v : V}, Flat v → Dp K H v (pyD (.f v))
  | .non, _ => by rw [pyD]; exact .non
  | .bl b, _ => by rw [pyD]; exact .bl b
  | .int i, _ => by rw [pyD]; exact .int i
  | .str x, _ => by rw [pyD]; exact .str x
theorem dpall_at {K : PySem.W.Frag} {H : Hp} {n : Nat} (h : ∀ v d, Has H n v d → Dp K H v (pyD d)) : ∀ {vs : List V} {ds : List Dt}, vs.length = ds.length → (∀ (i : Nat) (x : V) (y : Dt), vs[i]? = some x → ds[i]? = some y → Has H n x y) → DpAll K H vs (pyL ds)
  | [], [], _, _ => by rw [pyL]; exact .nil
  | v :: vs, d :: ds, l, k => by
    rw [pyL]
    exact .cons (h v d (k 0 v d rfl rfl)) (dpall_at h (Nat.succ.inj l) fun i x y a b => k (i + 1) x y a b)
  | [], _ :: _, l, _ => nomatch l
  | _ :: _, [], l, _ => nomatch l
theorem dp_has {K : PySem.W.Frag} {H : Hp} : ∀ (n : Nat) (v : V) (d : Dt), Has H n v d → Dp K H v (pyD d)
  | 0, v, d, h => by
    obtain ⟨f, rfl⟩ := (show Flat v ∧ d = .f v from h)
    exact dp_flat f
  | n + 1, v, d, h => by
    rcases h with ⟨f, rfl⟩ | ⟨a, vs, ds, rfl, ⟨ha, rfl⟩ | ⟨ha, rfl⟩, hl, _, hi⟩
    · exact dp_flat f
    · rw [pyD]
      exact .lst (SqL.of ha) (dpall_at (dp_has n) hl hi)
    · rw [pyD]
      exact .tup (SqT.of ha) (dpall_at (dp_has n) hl hi)
section
variable {K : PySem.W.Frag} {ta tb : TE} {σ : L2.St} {H : Hp} {n m : Nat} {d d2 : Dt}
theorem ev_eqDt {b : Bool} (ha : EvH ta σ H n d) (hb : EvH tb σ H m d2) (s1 : SeqAt.shaped (pyD d) = true) (s2 : SeqAt.shaped (pyD d2) = true) (h : PyData.eqv (pyD d) (pyD d2) = b) : Ev (tOp (rEqD K) ta tb) σ H (.bl b) := fun H1 e1 Q q =>
  ha H1 e1 _ fun v H2 e2 hv => hb H2 (e1.trans e2) _ fun w H3 e3 hw => ⟨pyD d, pyD d2, dp_has n v d (hv.ex e3), dp_has m w d2 hw, s1, s2, by rw [h]; exact q H3 (e2.trans e3)⟩
theorem ev_neDt {b : Bool} (ha : EvH ta σ H n d) (hb : EvH tb σ H m d2) (s1 : SeqAt.shaped (pyD d) = true) (s2 : SeqAt.shaped (pyD d2) = true) (h : PyData.eqv (pyD d) (pyD d2) = !b) : Ev (tOp (rNeD K) ta tb) σ H (.bl b) := fun H1 e1 Q q =>
  ha H1 e1 _ fun v H2 e2 hv => hb H2 (e1.trans e2) _ fun w H3 e3 hw => ⟨pyD d, pyD d2, dp_has n v d (hv.ex e3), dp_has m w d2 hw, s1, s2, by rw [h, Bool.not_not]; exact q H3 (e2.trans e3)⟩
end
end K03

-- base: law_k66_errors_by_themselves
/-! InvalidAlphabet, raised -/
namespace K03
open PySem L2 Evl OxK
section
variable {P : Program} {w : World} {K : PySem.W.Frag} {mg : Str → Option Value} {base : Heap} {f fC C : Addr} {fd fdC : FuncData}
abbrev FIInvalidAlphabet (K : PySem.W.Frag) (f : Addr) (fd : FuncData) : Prop := FunD K "__init__" "InvalidAlphabet.__init__" (defArgs iInvalidAlphabet) (defBody iInvalidAlphabet) (defScope iInvalidAlphabet) [] [] f fd
theorem sxInvalidAlphabet : FnScope ["self"] ["self"] (defScope iInvalidAlphabet) := ⟨rfl, rfl, rfl, by decide +kernel, rfl, by decide +kernel, by decide +kernel⟩
theorem okxInvalidAlphabet {fI : Addr} (F : FIInvalidAlphabet K f fd) (T : RaC K mg "InvalidAlphabet" C fI) : FnOk P w K mg base CX0 1 f fd ["self"] (spX0 C "InvalidAlphabet") := by
  refine F.ok (k := 0) sxInvalidAlphabet (fun vs H Q E h => ?_) (fun cdv A outer s H vs Q E hr h => ⟨_, PSs.nox (pss_one (ps_xst (pv 0) pe_str)), pure_initN0 "InvalidAlphabet" T.exc (T.tag.no _ (by decide)) h⟩)
  obtain ⟨a, H0, rfl, _⟩ := h
  rfl
theorem bxInvalidAlphabet (F : FIInvalidAlphabet K f fd) : Binds K fd ["self"] [] := F.bindsN fun _ _ _ _ _ _ us hl => match us, hl with | [_], _ => rfl
end
end K03

-- base: law_k66_errors_by_themselves
/-! InvalidStates, raised -/
namespace K03
open PySem L2 Evl OxK
section
variable {P : Program} {w : World} {K : PySem.W.Frag} {mg : Str → Option Value} {base : Heap} {f fC C : Addr} {fd fdC : FuncData}
abbrev FIInvalidStates (K : PySem.W.Frag) (f : Addr) (fd : FuncData) : Prop := FunD K "__init__" "InvalidStates.__init__" (defArgs iInvalidStates) (defBody iInvalidStates) (defScope iInvalidStates) [] [] f fd
theorem sxInvalidStates : FnScope ["self", "given"] ["self", "given"] (defScope iInvalidStates) := ⟨rfl, rfl, rfl, by decide +kernel, rfl, by decide +kernel, by decide +kernel⟩
theorem okxInvalidStates (n : Nat) {fI : Addr} (F : FIInvalidStates K f fd) (T : RaC K mg "InvalidStates" C fI)
    (GC : FnOk P w K mg base CX0 (n + 1) fC fdC ["value"] (spCpN n)) (gC : mg "copied" = some (.ref fC)) (kC : PySem.W.keepIn K (.ref fC) = true) (bC : Binds K fdC ["value"] []) : FnOk P w K mg base CX0 (n + 2) f fd ["self", "given"] (spX n C "InvalidStates" "given") := by
  refine F.ok sxInvalidStates (fun vs H Q E h => ?_) (fun cdv A outer s H vs Q E hr h => ⟨t_initN K n "InvalidStates" "given", PSs.nox (pss_cons (ps_xst (pv 0) pe_str) (pss_one (ps_xst (pv 0) (pe_call GC hr rfl gC kC bC .nil pass0 (pa_cons (pv 1) pa_nil))))), pure_initN n "InvalidStates" "given" T.exc (T.tag.no _ (by decide)) (T.tag.no _ (by decide)) h⟩)
  obtain ⟨a, v, d, H0, rfl, _⟩ := h
  rfl
theorem bxInvalidStates (F : FIInvalidStates K f fd) : Binds K fd ["self", "given"] [] := F.bindsN fun _ _ _ _ _ _ us hl => match us, hl with | [_, _], _ => rfl
end
end K03

-- base: law_k02_machines_refused
/-! require_shape that raises -/
namespace K03
open PySem L2 Evl OxK
/-- no alphabet -/
def NoAlp (K : PySem.W.Frag) (H : Hp) (v : V) : Prop := ∃ T, Kn K H v T ∧ (T ≠ "str" ∨ ∃ x : Str, v = .str x ∧ T = "str" ∧ x.length ≤ 1000 ∧ alphaB x = false)
theorem NoAlp.ex {K : PySem.W.Frag} {H H' : Hp} {v : V} (h : NoAlp K H v) (e : Ex H H') : NoAlp K H' v := by
  obtain ⟨T, k, q⟩ := h
  exact ⟨T, k.ex e, q⟩
def YesAlp (v : V) : Prop := ∃ x : Str, v = .str x ∧ x.length ≤ 1000 ∧ alphaB x = true
def NoSize (K : PySem.W.Frag) (H : Hp) (y : V) : Prop := ∃ T, Kn K H y T ∧ (T ≠ "int" ∨ ∃ z : Int, y = .int z ∧ T = "int" ∧ ¬ (1 ≤ z ∧ z ≤ 24))
theorem NoSize.ex {K : PySem.W.Frag} {H H' : Hp} {v : V} (h : NoSize K H v) (e : Ex H H') : NoSize K H' v := by
  obtain ⟨T, k, q⟩ := h
  exact ⟨T, k.ex e, q⟩
def spRsX (K : PySem.W.Frag) (n : Nat) (CA CS : Addr) : Sp := fun vs H Q E => ∃ v y, vs = [v, y] ∧ ((NoAlp K H v ∧ Rz0 CA "InvalidAlphabet" H E) ∨ (YesAlp v ∧ NoSize K H y ∧ ∃ d, Has H n y d ∧ Rz n CS "InvalidStates" "given" d H E))
section
variable {P : Program} {w : World} {K : PySem.W.Frag} {mg : Str → Option Value} {base : Heap} {f : Addr} {fd : FuncData}
theorem ok_rsx {fA fN C iA iS CA CS : Addr} {fdA fdN fdIA fdIS : FuncData} {n : Nat} (F : FnP K "require_shape" sRsh f fd)
    (GA : FnOk P w K mg base CX0 2 fA fdA ["value"] (spAlpA K)) (gA : mg "is_alphabet" = some (.ref fA)) (kA : PySem.W.keepIn K (.ref fA) = true) (bA : Binds K fdA ["value"] [])
    (GN : FnOk P w K mg base CX0 1 fN fdN ["value"] (spNum K)) (gN : mg "is_number" = some (.ref fN)) (kN : PySem.W.keepIn K (.ref fN) = true) (bN : Binds K fdN ["value"] [])
    (gC : mg "Machine" = some (.ref C)) (c24 : Told24 K C)
    (TA : RaC K mg "InvalidAlphabet" CA iA) (GIA : FnOk P w K mg base CX0 1 iA fdIA ["self"] (spX0 CA "InvalidAlphabet")) (bIA : Binds K fdIA ["self"] [])
    (TS : RaC K mg "InvalidStates" CS iS) (GIS : FnOk P w K mg base CX0 (n + 2) iS fdIS ["self", "given"] (spX n CS "InvalidStates" "given")) (bIS : Binds K fdIS ["self", "given"] []) :
    FnOk P w K mg base (L2.CX P w) (n + 4) f fd ["alphabet", "size"] (spRsX K n CA CS) := by
  obtain ⟨mc, u24, cr, cv⟩ := c24
  refine F.ok scRs (fun vs H Q E h => ?_) (fun cdv A outer s H vs Q E hr h => ?_)
  · obtain ⟨v, y, rfl, _⟩ := h
    rfl
  · obtain ⟨v, y, rfl, h⟩ := h
    refine ⟨_, (pss_cons (ps_if (pt_not (pt_val (pe_call GA (hr.mono (by omega)) rfl gA kA bA .nil pass0 (pa_cons (pv 0) pa_nil)))) (pss_one (ps_rz0 TA GIA (hr.mono (by omega)) bIA rfl (takes_of rfl rfl rfl rfl) rfl)) pss_nil)
      (pss_one (ps_if (PW.pt (pw_or (pt_not (pt_val (pe_call GN (hr.mono (by omega)) rfl gN kN bN .nil pass0 (pa_cons (pv 1) pa_nil)))) (pw_or1 (pt_not (pt_chain op_le op_le pe_int (pv 1) (ClX.pe_cval (pe_glob (v := .ref C) rfl gC rfl)))))))
        (pss_one (ps_rz TS GIS hr bIS rfl (takes_of rfl rfl rfl rfl) rfl (pv 1))) pss_nil))), ?_⟩
    rcases h with ⟨⟨T, kv, hT⟩, k⟩ | ⟨⟨x, rfl, xl, ax⟩, ⟨T2, ky, hy⟩, d, hd, k⟩
    · refine s_if (b := true) (et_not (a := false) (et_B ?_)) (fun _ H1 e1 => rz_0 fun dd H' e' hd => k dd H' (e1.trans e') hd) (fun h => nomatch h)
      intro H1 e1 Q1 q1
      rcases hT with nT | ⟨x, rfl, rfl, xl, ax⟩
      · exact ⟨_, rfl, v, T, rfl, kv.ex e1, .inl ⟨nT, q1⟩⟩
      · refine ⟨_, rfl, _, "str", rfl, kv.ex e1, .inr ⟨x, rfl, rfl, xl, ?_⟩⟩
        rw [ax]
        exact q1
    · refine s_if (b := false) (et_not (a := true) (et_B ?_)) (fun h => nomatch h) (fun _ H1 e1 => ?_)
      · intro H1 e1 Q1 q1
        refine ⟨_, rfl, _, "str", rfl, kn_flat True.intro, .inr ⟨x, rfl, rfl, xl, ?_⟩⟩
        rw [ax]
        exact q1
      unfold tNext
      dsimp only
      have fin : ∀ H2, Ex H1 H2 → tRz n CS "InvalidStates" "given" (fun cls d _ H => E cls d H) (tVar 1) { nx := fun _ H' => Q .non H', rt := Q } [some (.str x), some y] H2 := fun H2 e2 =>
        rz_eh (d := d) (fun Q q => ⟨_, rfl, q _ _ (Ex.refl _) (hd.ex (e1.trans e2))⟩) fun dd H' v' e' h1 h2 => k dd H' v' ((e1.trans e2).trans e') h1 (h2.ex (nw_mono (e1.trans e2)))
      rcases hy with nT | ⟨z, rfl, rfl, nz⟩
      · refine s_if (b := true) (et_or (a := true) (b := false) (et_not (a := false) (et_B ?_)) (fun h => nomatch h)) (fun _ H2 e2 => fin H2 e2) (fun h => nomatch h)
        intro H2 e2 Q1 q1
        refine ⟨_, rfl, _, T2, rfl, ky.ex (e1.trans e2), fun H3 e3 => ?_⟩
        rw [decide_eq_false nT]
        exact q1 H3 e3
      · refine s_if (b := true) (et_or (a := false) (b := true) (et_not (a := true) (et_B ?_)) (fun _ => et_not (a := false) ?_)) (fun _ H2 e2 => fin H2 e2) (fun h => nomatch h)
        · intro H2 e2 Q1 q1
          exact ⟨_, rfl, _, "int", rfl, kn_flat True.intro, q1⟩
        · intro H2 e2 Q2 q2
          refine ⟨_, rfl, _, _, rfl, rfl, _, rfl, ?_⟩
          cases z1 : decide ((1 : Int) ≤ z) with
          | true =>
            have z2 : decide (z ≤ (24 : Int)) = false := decide_eq_false fun q => nz ⟨of_decide_eq_true z1, q⟩
            refine iteT ⟨_, mc, _, u24, rfl, cr, cv, _, _, rfl, rfl, false, congrArg V.bl z2, ?_⟩
            exact q2 H2 (Ex.refl H2)
          | false => exact iteF ⟨_, rfl, q2 H2 (Ex.refl H2)⟩
end
end K03

-- base: law_k66_errors_by_themselves
/-! InvalidMove, raised -/
namespace K03
open PySem L2 Evl OxK
section
variable {P : Program} {w : World} {K : PySem.W.Frag} {mg : Str → Option Value} {base : Heap} {f fC C : Addr} {fd fdC : FuncData}
abbrev FIInvalidMove (K : PySem.W.Frag) (f : Addr) (fd : FuncData) : Prop := FunD K "__init__" "InvalidMove.__init__" (defArgs iInvalidMove) (defBody iInvalidMove) (defScope iInvalidMove) [] [] f fd
theorem sxInvalidMove : FnScope ["self", "index"] ["self", "index"] (defScope iInvalidMove) := ⟨rfl, rfl, rfl, by decide +kernel, rfl, by decide +kernel, by decide +kernel⟩
theorem okxInvalidMove (n : Nat) {fI : Addr} (F : FIInvalidMove K f fd) (T : RaC K mg "InvalidMove" C fI)
    (GC : FnOk P w K mg base CX0 (n + 1) fC fdC ["value"] (spCpN n)) (gC : mg "copied" = some (.ref fC)) (kC : PySem.W.keepIn K (.ref fC) = true) (bC : Binds K fdC ["value"] []) : FnOk P w K mg base CX0 (n + 2) f fd ["self", "index"] (spX n C "InvalidMove" "index") := by
  refine F.ok sxInvalidMove (fun vs H Q E h => ?_) (fun cdv A outer s H vs Q E hr h => ⟨t_initN K n "InvalidMove" "index", PSs.nox (pss_cons (ps_xst (pv 0) pe_str) (pss_one (ps_xst (pv 0) (pe_call GC hr rfl gC kC bC .nil pass0 (pa_cons (pv 1) pa_nil))))), pure_initN n "InvalidMove" "index" T.exc (T.tag.no _ (by decide)) (T.tag.no _ (by decide)) h⟩)
  obtain ⟨a, v, d, H0, rfl, _⟩ := h
  rfl
theorem bxInvalidMove (F : FIInvalidMove K f fd) : Binds K fd ["self", "index"] [] := F.bindsN fun _ _ _ _ _ _ us hl => match us, hl with | [_, _], _ => rfl
end
end K03

-- base: law_k02_machines_refused
/-! Machine.__init__ that raises -/
namespace K03
open PySem L2 Evl OxK
theorem hasF {H : Hp} {v : V} (f : Flat v) : ∀ n, Has H n v (.f v)
  | 0 => ⟨f, rfl⟩
  | _ + 1 => .inl ⟨f, rfl⟩
def spRsE (K : PySem.W.Frag) (n : Nat) (CA CS : Addr) : Sp := fun vs H Q E => spRsh vs H Q E ∨ spRsX K n CA CS vs H Q E
def spMiX (K : PySem.W.Frag) (n : Nat) (CA CS CM : Addr) : Sp := fun vs H Q E => ∃ (s : Addr) (v : V) (m : Addr) (ms : List V), vs = [.ref s, v, .ref m] ∧ (H m = some (.lst ms) ∨ H m = some (.tup ms)) ∧
  ((NoAlp K H v ∧ Rz0 CA "InvalidAlphabet" H E) ∨ (YesAlp v ∧ ¬ (1 ≤ ms.length ∧ ms.length ≤ 24) ∧ Rz n CS "InvalidStates" "given" (.f (.int (ms.length : Int))) H E) ∨
    ∃ (x : Str) (at_ : Nat), v = .str x ∧ AlphaOk x ∧ 1 ≤ ms.length ∧ ms.length ≤ 24 ∧ at_ < ms.length ∧ (∀ j y, j < at_ → ms[j]? = some y → GlOf K H y (x.length : Int) (ms.length : Int) true) ∧ (∀ y, ms[at_]? = some y → GlOf K H y (x.length : Int) (ms.length : Int) false) ∧
      Rz n CM "InvalidMove" "index" (.f (.int (at_ : Int))) H E)
section
variable {P : Program} {w : World} {K : PySem.W.Frag} {mg : Str → Option Value} {base : Heap} {f : Addr} {fd : FuncData}
theorem ok_mix {fR fL fG iM CA CS CM : Addr} {fdR fdL fdG fdIM : FuncData} {n : Nat} (F : FunD K "__init__" "Machine.__init__" (defArgs sMi) (defBody sMi) (defScope sMi) [] [] f fd) (T : NoS mg) (gE : mg "enumerate" = none)
    (GR : FnOk P w K mg base (L2.CX P w) (n + 4) fR fdR ["alphabet", "size"] (spRsE K n CA CS)) (gR : mg "require_shape" = some (.ref fR)) (kR : PySem.W.keepIn K (.ref fR) = true) (bR : Binds K fdR ["alphabet", "size"] [])
    (GL : FnOk P w K mg base CX0 1 fL fdL ["value"] (spLst K)) (gL : mg "is_list" = some (.ref fL)) (kL : PySem.W.keepIn K (.ref fL) = true) (bL : Binds K fdL ["value"] [])
    (GG : FnOk P w K mg base CX0 3 fG fdG ["value", "letters", "states"] (spGlsA K)) (gG : mg "is_goals" = some (.ref fG)) (kG : PySem.W.keepIn K (.ref fG) = true) (bG : Binds K fdG ["value", "letters", "states"] [])
    (TM : RaC K mg "InvalidMove" CM iM) (GIM : FnOk P w K mg base CX0 (n + 2) iM fdIM ["self", "index"] (spX n CM "InvalidMove" "index")) (bIM : Binds K fdIM ["self", "index"] []) :
    FnOk P w K mg base (L2.CX P w) (n + 5) f fd ["self", "alphabet", "moves"] (spMiX K n CA CS CM) := by
  refine F.ok scMi (fun vs H Q E h => ?_) (fun cdv A outer s H vs Q E hr h => ?_)
  · obtain ⟨s, v, m, ms, rfl, _⟩ := h
    rfl
  · obtain ⟨se, v, m, ms, rfl, hm, h⟩ := h
    refine ⟨_, (pss_cons (ps_expr (pe_call GR hr rfl gR kR bR .nil (passes_call (E := E) (takes_of rfl rfl rfl rfl) (fun _ _ _ _ h => h)) (pa_cons (pv 1) (pa_cons (pe_ifExp (pt_val (pe_call GL (hr.mono (by omega)) rfl gL kL bL .nil pass0 (pa_cons (pv 2) pa_nil))) (pe_callB call_len_seq (by rfl) T.len PySem.boot_len (pa_cons (pv 2) pa_nil)) pe_int) pa_nil))))
      (pss_cons (ps_for (passes_of rfl) rfl (pi_or (pi_enum (by rfl) gE (pa_cons (pv 2) pa_nil)) (pi_enumM (by rfl) gE (pa_cons (pv 2) pa_nil))) (pg_tup (by rfl) (pgs_cons (pg_name (i := 3) scMi.nd rfl (Or.inl rfl)) (pgs_cons (pg_name (i := 4) scMi.nd rfl (Or.inl rfl)) pgs_nil)))
        (pss_one (ps_if (pt_not (pt_val (pe_call GG (hr.mono (by omega)) rfl gG kG bG .nil pass0 (pa_cons (pv 4) (pa_cons (pe_callB call_len_str (by rfl) T.len PySem.boot_len (pa_cons (pv 1) pa_nil)) (pa_cons (pe_callB call_len_seq (by rfl) T.len PySem.boot_len (pa_cons (pv 2) pa_nil)) pa_nil)))))) (pss_one (ps_rz TM GIM (hr.mono (by omega)) bIM rfl (takes_of rfl rfl rfl rfl) rfl (pv 3))) pss_nil)))
      (pss_cons ps_never (pss_cons ps_never (pss_one ps_never))))), ?_⟩
    have hmH : ∀ H', Ex H H' → (H' m = some (.lst ms) ∨ H' m = some (.tup ms)) := fun H' e => hm.imp (e _ _) (e _ _)
    have sqH : ∀ H', Ex H H' → (SqL K H' m ms ∨ SqT K H' m ms) := fun H' e => (hmH H' e).imp SqL.of SqT.of
    have hk : ∃ T, Kn K H (.ref m) T ∧ (isB T "list" || isB T "tuple") = true := by
      rcases hm with ha | ha
      · exact ⟨_, kn_lst ha, rfl⟩
      · exact ⟨_, kn_tup ha, rfl⟩
    obtain ⟨Tm, km, hb⟩ := hk
    refine ⟨_, rfl, _, rfl, .ref m, Tm, rfl, km, fun H1 e1 => ⟨_, rfl, ?_⟩⟩
    rw [hb]
    refine iteT ⟨_, rfl, m, ms, rfl, sqH H1 e1, ?_⟩
    rcases h with ⟨na, k⟩ | ⟨ya, ns, k⟩ | ⟨x, at_, rfl, ax, n1, n24, hat, hgood, hbad, k⟩
    · exact .inr ⟨v, _, rfl, .inl ⟨na.ex e1, k.ex e1⟩⟩
    · exact .inr ⟨v, _, rfl, .inr ⟨ya, ⟨"int", kn_flat True.intro, .inr ⟨_, rfl, rfl, fun q => ns (by omega)⟩⟩, _, hasF (v := .int (ms.length : Int)) True.intro n, k.ex e1⟩⟩
    have hxl : x.length = (sg x).length := by simp [Str.length, sg]
    have x3 := ax.three
    refine .inl ⟨x, _, rfl, ax, by omega, by omega, fun H2 e2 => ?_⟩
    have E2 : Ex H H2 := e1.trans e2
    refine or_enum (ms := ms) rfl (hmH H2 E2) fun J wk => ?_
    refine for_wk wk (fun i σ' H' => ∃ u3 u4 : Option V, σ' = [some (.ref se), some (.str x), some (.ref m), u3, u4, none] ∧ Ex H2 H' ∧ i ≤ at_) ⟨none, none, rfl, Ex.refl H2, Nat.zero_le _⟩ (fun i σ' H' ⟨_, _, _, e, _⟩ => e) ?_ ?_
    · rintro i y σ' H3 H4 hi ⟨T', z, rfl, hT, rfl, hz⟩ ⟨u3, u4, rfl, e3, hle⟩
      have E3 : Ex H (upd H3 T' (.tup [.int (i : Nat), z])) := (E2.trans e3).trans (Ex.new hT)
      refine ⟨T', _, rfl, SqT.of upd_same, rfl, _, _, rfl, _, _, rfl, rfl, ?_⟩
      have call : ∀ (b : Bool), GlOf K H z (x.length : Int) (ms.length : Int) b → ∀ H5, Ex (upd H3 T' (.tup [.int (i : Nat), z])) H5 → ∀ Q5 : VK, (∀ H6, Ex H5 H6 → Q5 (.bl b) H6) →
          tCall (spGlsA K) [] E0 (tCons (tVar 4) (tCons (tCB (fun xs H Q => ∃ i, xs = [V.str i] ∧ i.length ≤ sizeLine ∧ Q (.int (i.length : Int)) H) (tCons (tVar 1) tNil)) (tCons (tCB (rLenS K) (tCons (tVar 2) tNil)) tNil))) [some (.ref se), some (.str x), some (.ref m), some (.int (i : Nat)), some z, none] H5 Q5 := fun b hg H5 e5 Q5 q5 =>
        ⟨_, rfl, _, rfl, x, rfl, Nat.le_of_lt (small1000 (by omega)), _, rfl, m, ms, rfl, sqH H5 (E3.trans e5), z, _, _, b, rfl, hg.ex (E3.trans e5), q5⟩
      by_cases hia : i = at_
      · subst hia
        refine s_if (b := true) (et_not (a := false) (et_B fun H5 e5 Q5 q5 => call false (hbad z hz) H5 e5 Q5 q5)) (fun _ H5 e5 => ?_) (fun h => nomatch h)
        exact rz_eh (d := .f (.int (i : Int))) (fun Q q => ⟨_, rfl, q _ _ (Ex.refl _) (hasF (v := .int (i : Int)) True.intro n)⟩) fun dd H' v' e' h1 h2 => k dd H' v' ((E3.trans e5).trans e') h1 (h2.ex (nw_mono (E3.trans e5)))
      · refine s_if (b := false) (et_not (a := true) (et_B fun H5 e5 Q5 q5 => call true (hgood i z (by omega) hz) H5 e5 Q5 q5)) (fun h => nomatch h) (fun _ H5 e5 => ?_)
        exact ⟨_, _, rfl, (e3.trans (Ex.new hT)).trans e5, by omega⟩
    · rintro σ' H3 ⟨u3, u4, rfl, e3, hle⟩
      omega
end
end K03

-- base: law_k02_machines_refused
/-! what Machine makes of wrong data -/
namespace K03
open PySem L2 L2H LamX LamV Evl OxK
mutual
def okD : Dt → Bool
  | .f (.str x) => PyData.strOk x
  | .f _ => true
  | .l xs => okL xs
  | .t xs => okL xs
def okL : List Dt → Bool
  | [] => true
  | d :: ds => okD d && okL ds
end
theorem okL_all {p : Dt → Prop} : ∀ {ds : List Dt}, (∀ d ∈ ds, okD d = true) → okL ds = true
  | [], _ => by simp [okL]
  | d :: ds, h => by
    rw [okL, h d List.mem_cons_self, okL_all (p := p) fun e he => h e (List.mem_cons_of_mem _ he)]
    rfl
theorem lay_has {H : Hp} : ∀ (n : Nat) (v : V) (d : Dt), Has H n v d → okD d = true → PyData.canLay0 (pyD d) = true ∧ PyData.depth (pyD d) ≤ n := by
  have flat : ∀ {v : V}, Flat v → okD (.f v) = true → PyData.canLay0 (pyD (.f v)) = true ∧ PyData.depth (pyD (.f v)) = 0 := fun {v} fv ok => by
    match v, fv, ok with
    | .non, _, _ => rw [pyD]; simp [PyData.canLay0, PyData.depth]
    | .bl _, _, _ => rw [pyD]; simp [PyData.canLay0, PyData.depth]
    | .int _, _, _ => rw [pyD]; simp [PyData.canLay0, PyData.depth]
    | .str x, _, ok => rw [pyD]; rw [okD] at ok; simp [PyData.canLay0, PyData.depth, ok]
  have all : ∀ (n : Nat), (∀ (v : V) (d : Dt), Has H n v d → okD d = true → PyData.canLay0 (pyD d) = true ∧ PyData.depth (pyD d) ≤ n) → ∀ {vs : List V} {ds : List Dt}, vs.length = ds.length → (∀ (i : Nat) (x : V) (y : Dt), vs[i]? = some x → ds[i]? = some y → Has H n x y) → okL ds = true →
      PyData.canLayAll0 (pyL ds) = true ∧ PyData.depthAll (pyL ds) ≤ n := by
    intro n ih vs
    induction vs with
    | nil =>
      intro ds hl _ _
      cases ds with
      | nil => rw [pyL]; simp [PyData.canLayAll0, PyData.depthAll]
      | cons => simp at hl
    | cons v vs ihv =>
      intro ds hl hi ok
      cases ds with
      | nil => simp at hl
      | cons d ds =>
        rw [okL, Bool.and_eq_true] at ok
        obtain ⟨h1, h2⟩ := ih v d (hi 0 v d rfl rfl) ok.1
        obtain ⟨h3, h4⟩ := ihv (by simpa using hl) (fun i x y a b => hi (i + 1) x y (by simpa using a) (by simpa using b)) ok.2
        rw [pyL]
        simp only [PyData.canLayAll0, PyData.depthAll, h1, h3, Bool.and_true]
        exact ⟨trivial, by omega⟩
  intro n
  induction n with
  | zero =>
    intro v d h ok
    obtain ⟨f, rfl⟩ := (show Flat v ∧ d = .f v from h)
    obtain ⟨h1, h2⟩ := flat f ok
    exact ⟨h1, by omega⟩
  | succ n ih =>
    intro v d h ok
    rcases h with ⟨f, rfl⟩ | ⟨a, vs, ds, rfl, ⟨ha, rfl⟩ | ⟨ha, rfl⟩, hl, _, hi⟩
    · obtain ⟨h1, h2⟩ := flat f ok
      exact ⟨h1, by omega⟩
    · rw [okD] at ok
      obtain ⟨h1, h2⟩ := all n ih hl hi ok
      rw [pyD]
      simp only [PyData.canLay0, PyData.depth, h1]
      exact ⟨trivial, by omega⟩
    · rw [okD] at ok
      obtain ⟨h1, h2⟩ := all n ih hl hi ok
      rw [pyD]
      simp only [PyData.canLay0, PyData.depth, h1]
      exact ⟨trivial, by omega⟩
theorem shaped_has {H : Hp} {n : Nat} {v : V} {d : Dt} (h : Has H n v d) (ok : okD d = true) (few : n ≤ 64) : SeqAt.shaped (pyD d) = true := by
  obtain ⟨h1, h2⟩ := lay_has n v d h ok
  unfold SeqAt.shaped
  rw [h1, Bool.true_and, decide_eq_true_iff]
  omega
section
variable {K : PySem.W.Frag} {te ta tb : TE} {tr : TA} {σ : L2.St} {H H' H1 H2 : Hp} {b l a : Addr} {ns : List Int} {v : V} {d d2 : Dt} {ds es : List Dt} {n i : Nat}
/-- == of data, as Python sees it -/
theorem vd_eq {m : Nat} {c : Bool} (ha : VD b ta σ H n d) (hb : VD b tb σ H m d2) (s1 : okD d = true) (s2 : okD d2 = true) (fn : n ≤ 64) (fm : m ≤ 64) (h : PyData.eqv (pyD d) (pyD d2) = c) (nb : H b ≠ none) {Q : VK} (q : ∀ H2, Ex H H2 → Q (.bl c) H2) : tOp (rEqD K) ta tb σ H Q :=
  ha H (Ex.refl _) nb _ fun v H2 e2 hv => hb H2 (dl_up e2) (up_ne nb e2) _ fun w H3 e3 hw => ⟨pyD d, pyD d2, dp_has n v d ((hv.ex (dl_up e3)).ex dl_ex), dp_has m w d2 (hw.ex dl_ex), shaped_has hv s1 fn, shaped_has hw s2 fm, by rw [h]; exact q H3 (e2.trans e3)⟩
/-! ### alphabets and goals as data -/
def dNoAlp : Dt → Prop
  | .f (.str x) => x.length ≤ 1000 ∧ alphaB x = false
  | _ => True
theorem kn_has (h : Has H n v d) (hd : ∀ w, d ≠ .f w) : ∃ T, Kn K H v T ∧ (T = "list" ∨ T = "tuple") := by
  match n, h with
  | 0, h =>
    obtain ⟨f, rfl⟩ := (show Flat v ∧ d = .f v from h)
    exact absurd rfl (hd v)
  | n + 1, h =>
    rcases h with ⟨f, rfl⟩ | ⟨a, vs, ds, rfl, ⟨ha, rfl⟩ | ⟨ha, rfl⟩, _, _, _⟩
    · exact absurd rfl (hd v)
    · exact ⟨_, kn_lst ha, .inl rfl⟩
    · exact ⟨_, kn_tup ha, .inr rfl⟩
theorem has_fl {w : V} : ∀ {n : Nat}, Has H n v (.f w) → Flat v ∧ v = w
  | 0, h => by
    obtain ⟨f, e⟩ := (show Flat v ∧ Dt.f w = .f v from h)
    exact ⟨f, (Dt.f.inj e).symm⟩
  | n + 1, h => by
    rcases h with ⟨f, e⟩ | ⟨a, vs, ds, rfl, ⟨ha, e⟩ | ⟨ha, e⟩, _, _, _⟩
    · exact ⟨f, (Dt.f.inj e).symm⟩
    · cases e
    · cases e
theorem noAlp_has (h : Has H n v d) (hd : dNoAlp d) : NoAlp K H v := by
  cases d with
  | f w =>
    obtain ⟨fv, rfl⟩ := has_fl h
    refine ⟨_, kn_flat fv, ?_⟩
    cases v with
    | str x => exact .inr ⟨x, rfl, rfl, hd.1, hd.2⟩
    | _ => first | exact fv.elim | exact .inl (by simp [tyF])
  | l xs =>
    obtain ⟨T, k, z⟩ := kn_has (K := K) h fun w e => nomatch e
    exact ⟨T, k, .inl (by rcases z with rfl | rfl <;> decide)⟩
  | t xs =>
    obtain ⟨T, k, z⟩ := kn_has (K := K) h fun w e => nomatch e
    exact ⟨T, k, .inl (by rcases z with rfl | rfl <;> decide)⟩
def dIx : Dt → Int → Bool
  | .f v, n => isIx v n
  | _, _ => false
def dGl : Dt → Int → Int → Bool
  | .l ds, L, n => decide ((ds.length : Int) = L) && ds.all fun d => dIx d n
  | .t ds, L, n => decide ((ds.length : Int) = L) && ds.all fun d => dIx d n
  | _, _, _ => false
theorem ixOf_has {z : Int} (h : Has H n v d) : IxOf K H v z (dIx d z) := by
  cases d with
  | f w =>
    obtain ⟨fv, rfl⟩ := has_fl h
    exact .inl ⟨fv, rfl⟩
  | l xs =>
    obtain ⟨T, k, q⟩ := kn_has (K := K) h fun w e => nomatch e
    exact .inr ⟨T, k, by rcases q with rfl | rfl <;> decide, rfl⟩
  | t xs =>
    obtain ⟨T, k, q⟩ := kn_has (K := K) h fun w e => nomatch e
    exact .inr ⟨T, k, by rcases q with rfl | rfl <;> decide, rfl⟩
theorem glOf_has {L z : Int} (h : Has H n v d) : GlOf K H v L z (dGl d L z) := by
  have main : ∀ (p : Addr) (vs : List V) (ds : List Dt) (m : Nat), HasL H m vs ds → ds.length ≤ 1000 → (H p = some (.lst vs) ∨ H p = some (.tup vs)) → GlOf K H (.ref p) L z (decide ((ds.length : Int) = L) && ds.all fun d => dIx d z) := fun p vs ds m hv few hp => by
    have ln := (hasl_at hv).1
    refine .inr ⟨p, vs, ds.map fun d => dIx d z, rfl, hp, by omega, by simp [ln], fun i x c h1 h2 => ?_, by rw [ln, List.all_map]; rfl⟩
    rw [List.getElem?_map] at h2
    cases e : ds[i]? with
    | none => rw [e] at h2; cases h2
    | some d =>
      rw [e] at h2
      cases h2
      exact ixOf_has ((hasl_at hv).2 i x d h1 e)
  cases d with
  | f w =>
    obtain ⟨fv, rfl⟩ := has_fl h
    refine .inl ⟨_, kn_flat fv, ?_, rfl⟩
    cases v <;> first | exact fv.elim | rfl
  | l xs =>
    cases n with
    | zero => exact nomatch (show Flat v ∧ Dt.l xs = .f v from h).2
    | succ n =>
      obtain ⟨p, vs, rfl, hp, hv, few⟩ := has_l h
      exact main p vs xs n hv few (.inl hp)
  | t xs =>
    cases n with
    | zero => exact nomatch (show Flat v ∧ Dt.t xs = .f v from h).2
    | succ n =>
      obtain ⟨p, vs, rfl, hp, hv, few⟩ := has_t h
      exact main p vs xs n hv few (.inr hp)
/-! ### Machine(a, m) that raises -/
variable {C CA CS CM : Addr} {E : XK} {Q : VK} {x : Str} {k : Nat}
theorem made2 {p dx : Addr} (h1 : H p = none) (h2 : H dx = none) (h3 : dx ≠ p) : Ex H (upd (upd H dx (.own p)) p (.ins C dx [])) := (Ex.new h2).trans (Ex.new (by rw [upd_ne h3.symm]; exact h1))
theorem mk_noalp (ha : EvH ta σ H n d) (hb : EvH tb σ H (i + 1) (.l ds)) (hd : dNoAlp d) (r : Rz0 CA "InvalidAlphabet" H E) (sp : Sp) (hsp : ∀ vs H Q E, spMiX K k CA CS CM vs H Q E → sp vs H Q E) : tMake C sp [] E (tCons ta (tCons tb tNil)) σ H Q :=
  ha H (Ex.refl _) _ fun v H2 e2 hv => hb H2 e2 _ fun w H3 e3 hw => fun p dx h1 h2 h3 => by
    obtain ⟨m, ms, rfl, hm, _, _⟩ := has_l hw
    have e4 := made2 (C := C) h1 h2 h3
    exact hsp _ _ _ _ ⟨p, v, m, ms, rfl, .inl (e4 _ _ hm), .inl ⟨noAlp_has (hv.ex (e3.trans e4)) hd, r.ex ((e2.trans e3).trans e4)⟩⟩
theorem mk_nosize (ha : Ev ta σ H (.str x)) (ax : alphaB x = true) (xl : x.length ≤ 1000) (hb : EvH tb σ H (i + 1) (.l ds)) (hd : ¬ (1 ≤ ds.length ∧ ds.length ≤ 24)) (r : Rz k CS "InvalidStates" "given" (.f (.int (ds.length : Int))) H E) (sp : Sp) (hsp : ∀ vs H Q E, spMiX K k CA CS CM vs H Q E → sp vs H Q E) : tMake C sp [] E (tCons ta (tCons tb tNil)) σ H Q :=
  ha H (Ex.refl _) _ fun H2 e2 => hb H2 e2 _ fun w H3 e3 hw => fun p dx h1 h2 h3 => by
    obtain ⟨m, ms, rfl, hm, hv, _⟩ := has_l hw
    have e4 := made2 (C := C) h1 h2 h3
    have ln := (hasl_at hv).1
    exact hsp _ _ _ _ ⟨p, _, m, ms, rfl, .inl (e4 _ _ hm), .inr (.inl ⟨⟨x, rfl, xl, ax⟩, by rw [ln]; exact hd, by rw [ln]; exact r.ex ((e2.trans e3).trans e4)⟩)⟩
theorem mk_move {at_ : Nat} (ha : Ev ta σ H (.str x)) (ax : AlphaOk x) (hb : EvH tb σ H (i + 1) (.l ds)) (d1 : 1 ≤ ds.length) (d2 : ds.length ≤ 24) (hat : at_ < ds.length) (hg : ∀ j e, j < at_ → ds[j]? = some e → dGl e (x.length : Int) (ds.length : Int) = true) (hbad : ∀ e, ds[at_]? = some e → dGl e (x.length : Int) (ds.length : Int) = false)
    (r : Rz k CM "InvalidMove" "index" (.f (.int (at_ : Int))) H E) (sp : Sp) (hsp : ∀ vs H Q E, spMiX K k CA CS CM vs H Q E → sp vs H Q E) : tMake C sp [] E (tCons ta (tCons tb tNil)) σ H Q :=
  ha H (Ex.refl _) _ fun H2 e2 => hb H2 e2 _ fun w H3 e3 hw => fun p dx h1 h2 h3 => by
    obtain ⟨m, ms, rfl, hm, hv, _⟩ := has_l hw
    have e4 := made2 (C := C) h1 h2 h3
    have ln := (hasl_at hv).1
    refine hsp _ _ _ _ ⟨p, _, m, ms, rfl, .inl (e4 _ _ hm), .inr (.inr ⟨x, at_, rfl, ax, by omega, by omega, by omega, fun j y hj hy => ?_, fun y hy => ?_, r.ex ((e2.trans e3).trans e4)⟩)⟩
    · have hj2 : ds[j]? = some (ds[j]'(by omega)) := List.getElem?_eq_getElem (by omega)
      have z := glOf_has (K := K) (L := (x.length : Int)) (z := (ms.length : Int)) (((hasl_at hv).2 j y _ hy hj2).ex e4)
      rw [ln, hg j _ hj hj2] at z
      rw [ln]
      exact z
    · have hj2 : ds[at_]? = some (ds[at_]'(by omega)) := List.getElem?_eq_getElem (by omega)
      have z := glOf_has (K := K) (L := (x.length : Int)) (z := (ms.length : Int)) (((hasl_at hv).2 at_ y _ hy hj2).ex e4)
      rw [ln, hbad _ hj2] at z
      rw [ln]
      exact z
end
end K03

-- base: law_k03_words_and_far_words
/-! far words refused; Machine.word_to -/
namespace K03
open PySem L2 Evl OxK
abbrev cM3 : Int := 1000000000000000000000000000000 + 1
def spIcB (K : PySem.W.Frag) : Sp := fun vs H Q _ => ∃ (v : V) (b : Bool), vs = [v] ∧ IxOf K H v cM3 b ∧ ∀ H', Ex H H' → Q (.bl b) H'
/-- a part that is none: its word, or its count -/
def BadPt (K : PySem.W.Frag) (n : Nat) (CW CC : Addr) (x : Str) (v y : V) (H : Hp) (E : XK) : Prop :=
  (NoWd K H x v ∧ ∃ d, Has H n v d ∧ Rz n CW "InvalidWord" "given" d H E) ∨ (∃ w : Str, v = .str w ∧ x ∈ five5 ∧ WordOk x w ∧ IxOf K H y cM3 false ∧ ∃ d, Has H n y d ∧ Rz n CC "InvalidCount" "given" d H E)
theorem BadPt.ex {K : PySem.W.Frag} {n : Nat} {CW CC : Addr} {x : Str} {v y : V} {H H' : Hp} {E : XK} (h : BadPt K n CW CC x v y H E) (e : Ex H H') : BadPt K n CW CC x v y H' E := by
  rcases h with ⟨a, d, hd, r⟩ | ⟨w, a, b, c, ix, d, hd, r⟩
  · exact .inl ⟨a.ex e, d, hd.ex e, r.ex e⟩
  · exact .inr ⟨w, a, b, c, ix.ex e, d, hd.ex e, r.ex e⟩
def spRptX (K : PySem.W.Frag) (C : Addr) (n : Nat) (CW CC : Addr) : Sp := fun vs H Q E => ∃ (s p : Addr) (x : Str) (rows : List (List Nat)) (v y : V), vs = [.ref s, .ref p] ∧ IsM K C H s x rows ∧ H p = some (.tup [v, y]) ∧ BadPt K n CW CC x v y H E
def spRptE (K : PySem.W.Frag) (C : Addr) (n : Nat) (CW CC : Addr) : Sp := fun vs H Q E => spRpt K C vs H Q E ∨ spRptX K C n CW CC vs H Q E
/-- parts that are good up to one -/
def PartsX (K : PySem.W.Frag) (n : Nat) (CW CC : Addr) (H : Hp) (x : Str) (p : Addr) (ps : List (Str × Nat)) (E : XK) : Prop := ∃ (as : List Addr) (a : Addr) (v y : V), H p = some (.lst (as.map V.ref)) ∧ as.length ≤ 1000 ∧
  (∀ (i : Nat) (a : Addr) (w : Str) (n : Nat), as[i]? = some a → ps[i]? = some (w, n) → H a = some (.tup [.str w, .int (n : Int)]) ∧ WordOk x w ∧ n ≤ 10 ^ 30) ∧ as[ps.length]? = some a ∧ H a = some (.tup [v, y]) ∧ BadPt K n CW CC x v y H E
theorem PartsX.ex {K : PySem.W.Frag} {n : Nat} {CW CC : Addr} {x : Str} {p : Addr} {ps : List (Str × Nat)} {H H' : Hp} {E : XK} (h : PartsX K n CW CC H x p ps E) (e : Ex H H') : PartsX K n CW CC H' x p ps E := by
  obtain ⟨as, a, v, y, h1, h2, h3, h4, h5, h6⟩ := h
  exact ⟨as, a, v, y, e _ _ h1, h2, fun i a w n p q => ⟨e _ _ (h3 i a w n p q).1, (h3 i a w n p q).2⟩, h4, e _ _ h5, h6.ex e⟩
def spFarX (K : PySem.W.Frag) (C : Addr) (n : Nat) (CS CW CC : Addr) : Sp := fun vs H Q E => ∃ (s p : Addr) (x : Str) (rows : List (List Nat)) (z : V), vs = [.ref s, .ref p, z] ∧ IsM K C H s x rows ∧
  ((IxOf K H z (rows.length : Int) false ∧ ∃ d, Has H n z d ∧ Rz n CS "InvalidState" "given" d H E) ∨ (∃ (st : Nat) (ps : List (Str × Nat)), z = .int (st : Int) ∧ st < rows.length ∧ x ∈ five5 ∧ RowsOk x rows ∧ PartsX K n CW CC H x p ps E))
def roadV (x : Str) (rows : List (List Nat)) (st : Nat) : V := (valV (dkv (roads x rows)) (.inl (st : Int))).getD .non
def spMwt (K : PySem.W.Frag) (C : Addr) : Sp := fun vs H Q _ => ∃ (s : Addr) (x : Str) (rows : List (List Nat)) (st : Nat), vs = [.ref s, .int (st : Int)] ∧ IsM K C H s x rows ∧ st < rows.length ∧ ∀ H', Ex H H' → Q (roadV x rows st) H'
section
variable {P : Program} {w : World} {K : PySem.W.Frag} {mg : Str → Option Value} {base : Heap} {f : Addr} {fd : FuncData}
theorem ok_icB {fIx : Addr} {fdIx : FuncData} (F : FnP K "is_count" sIc f fd) (gMC : ∃ t, mg "MOST_COUNT" = some (.int 1000000000000000000000000000000 t)) (GIx : FnOk P w K mg base CX0 2 fIx fdIx ["value", "size"] (spIdxA K)) (gIx : mg "is_index" = some (.ref fIx)) (kIx : PySem.W.keepIn K (.ref fIx) = true) (bIx : Binds K fdIx ["value", "size"] []) : FnOk P w K mg base CX0 3 f fd ["value"] (spIcB K) := by
  obtain ⟨t, gMC⟩ := gMC
  refine F.ok scIc (fun vs H Q E h => ?_) (fun cdv A outer s H vs Q E hr h => ?_)
  · obtain ⟨v, b, rfl, _⟩ := h
    rfl
  · obtain ⟨v, b, rfl, ix, k⟩ := h
    refine ⟨_, PSs.nox (pss_one (ps_ret (pe_call GIx (hr.mono (by decide)) rfl gIx kIx bIx .nil pass0 (pa_cons (pv 0) (pa_cons (pe_op op_add (pe_glob (v := .int 1000000000000000000000000000000) rfl gMC ⟨_, rfl⟩) pe_int) pa_nil))))), ?_⟩
    exact ⟨_, rfl, _, _, rfl, rfl, v, _, b, rfl, ix, fun H2 e2 => k H2 e2⟩
theorem ok_rptX {C CW CC fW fIc iC : Addr} {fdW fdIc fdIC : FuncData} {n : Nat} (F : FunD K "require_part" "Machine.require_part" (defArgs sRpt) (defBody sRpt) (defScope sRpt) [] [] f fd) (T : NoS mg) (MC : MCls K C)
    (mW : Meth K C "require_word" fW) (GW : FnOk P w K mg base (L2.CX P w) (n + 4) fW fdW ["self", "word"] (spRqwE K C n CW)) (bW : Binds K fdW ["self", "word"] [])
    (GIc : FnOk P w K mg base CX0 3 fIc fdIc ["value"] (spIcB K)) (gIc : mg "is_count" = some (.ref fIc)) (kIc : PySem.W.keepIn K (.ref fIc) = true) (bIc : Binds K fdIc ["value"] [])
    (TC : RaC K mg "InvalidCount" CC iC) (GIC : FnOk P w K mg base CX0 (n + 2) iC fdIC ["self", "given"] (spX n CC "InvalidCount" "given")) (bIC : Binds K fdIC ["self", "given"] []) : FnOk P w K mg base (L2.CX P w) (n + 5) f fd ["self", "part"] (spRptX K C n CW CC) := by
  refine F.ok scRpt (fun vs H Q E h => ?_) (fun cdv A outer s H vs Q E hr h => ?_)
  · obtain ⟨s, p, x, rows, v, y, rfl, _⟩ := h
    rfl
  · obtain ⟨se, p, x, rows, v, y, rfl, im, hp, h⟩ := h
    refine ⟨_, (pss_cons (ps_if (PW.pt (pw_or (pt_not (pt_val (pe_callB call_isi (by rfl) T.b.isi PyProof.Rows.boot_isinstance (pa_cons (pv 1) (pa_cons (pe_bltn (v := .ty "tuple") (by rfl) T.b.tup (by decide +kernel) rfl) pa_nil))))) (pw_or1 (pt_cmpR op_ne (pe_callB call_len_seq (by rfl) T.len PySem.boot_len (pa_cons (pv 1) pa_nil)) pe_int (nomark _))))) (pss_one ps_never) pss_nil)
      (pss_cons (ps_expr (pe_meth (pv 0) MC.c mW GW (hr.mono (by omega)) bW .nil (passes_call (E := E) (takes_of rfl rfl rfl rfl) (fun _ _ _ _ h => h)) (pa_cons (pe_ix ix_tup (pv 1) pe_int (fun _ _ => rfl)) pa_nil)))
      (pss_one (ps_if (pt_not (pt_val (pe_call GIc (hr.mono (by omega)) rfl gIc kIc bIc .nil pass0 (pa_cons (pe_ix ix_tup (pv 1) pe_int (fun _ _ => rfl)) pa_nil)))) (pss_one (ps_rz TC GIC (hr.mono (by omega)) bIC rfl (takes_of rfl rfl rfl rfl) rfl (pe_ix ix_tup (pv 1) pe_int (fun _ _ => rfl)))) pss_nil)))), ?_⟩
    have st0 : L2.start (["self", "part"] : List Str) [V.ref se, V.ref p] = [some (V.ref se), some (V.ref p)] := rfl
    rw [st0]
    refine q_when (b := false) (et_or (a := false) (b := false) (et_not (a := true) (et_B (ev_is (ev_isi (ev_var rfl) (kn_tup hp)) rfl))) (fun _ => et_test (ev_is (ev_op (x := .int 2) (fun H2 e2 Q2 q2 => ⟨_, rfl, p, _, rfl, .inr (SqT.of (e2 _ _ hp)), q2 H2 (Ex.refl _)⟩) ev_c (rv_ne rfl)) rfl))) (fun h => nomatch h) (fun _ H1 e1 => ?_)
    have im1 := sqt_ex im e1
    obtain ⟨dx, r, da, hs, _⟩ := id im1
    have hp1 := e1 _ _ hp
    rcases h.ex e1 with ⟨nw, d, hd, k⟩ | ⟨wd, rfl, x5, wo, ix, d, hd, k⟩
    · exact ⟨_, rfl, se, dx, _, rfl, hs, rfl, _, rfl, p, _, 0, v, rfl, rfl, SqT.of hp1, rfl, .inr ⟨se, x, rows, v, d, rfl, im1, nw, hd, k⟩⟩
    · refine ⟨_, rfl, se, dx, _, rfl, hs, rfl, _, rfl, p, _, 0, .str wd, rfl, rfl, SqT.of hp1, rfl, .inl ⟨se, x, wd, rows, rfl, im1, x5, wo, fun H2 e2 => ?_⟩⟩
      dsimp only
      refine s_when (b := true) (et_not (a := false) (et_B fun H3 e3 Q3 q3 => ?_)) ?_ (fun h => nomatch h)
      · exact ⟨_, rfl, p, _, 1, y, rfl, rfl, SqT.of (e3 _ _ (e2 _ _ hp1)), rfl, y, false, rfl, ix.ex (e2.trans e3), q3⟩
      · exact fun _ H3 e3 => rz_eh (d := d) (fun Q q => ⟨_, rfl, p, _, 1, y, rfl, rfl, SqT.of (e3 _ _ (e2 _ _ hp1)), rfl, q _ _ (Ex.refl _) (hd.ex (e2.trans e3))⟩) fun dd H' v' e' h1 h2 => k dd H' v' ((e2.trans e3).trans e') h1 (h2.ex (nw_mono (e2.trans e3)))
theorem ok_farX {C CS CW CC fS fP fO : Addr} {fdS fdP fdO : FuncData} {n : Nat} (F : FunD K "far" "Machine.far" (defArgs sFar) (defBody sFar) (defScope sFar) [] [("state", .int 0)] f fd) (MC : MCls K C)
    (mS : Meth K C "require_state" fS) (GS : FnOk P w K mg base (L2.CX P w) (n + 4) fS fdS ["self", "state"] (spRqsE K C n CS)) (bS : Binds K fdS ["self", "state"] [])
    (mP : Meth K C "require_part" fP) (GP : FnOk P w K mg base (L2.CX P w) (n + 5) fP fdP ["self", "part"] (spRptE K C n CW CC)) (bP : Binds K fdP ["self", "part"] [])
    (mO : Meth K C "walk_often" fO) (GO : FnOk P w K mg base CX0 2 fO fdO ["self", "word", "count", "state"] (spWof K C)) (bO : Binds K fdO ["self", "word", "count", "state"] []) : FnOk P w K mg base (L2.CX P w) (n + 6) f fd ["self", "parts", "state"] (spFarX K C n CS CW CC) := by
  refine F.ok scFar (fun vs H Q E h => ?_) (fun cdv A outer s H vs Q E hr h => ?_)
  · obtain ⟨s, p, x, rows, z, rfl, _⟩ := h
    rfl
  · obtain ⟨se, p, x, rows, z, rfl, im, h⟩ := h
    refine ⟨_, (pss_cons (ps_expr (pe_meth (pv 0) MC.c mS GS (hr.mono (by omega)) bS .nil (passes_call (E := E) (takes_of rfl rfl rfl rfl) (fun _ _ _ _ h => h)) (pa_cons (pv 2) pa_nil)))
      (pss_cons (ps_for (passes_of rfl) rfl (pi_list (pv 1)) (pg_name (i := 3) scFar.nd rfl (Or.inl rfl)) (pss_cons (ps_expr (pe_meth (pv 0) MC.c mP GP (hr.mono (by omega)) bP .nil (passes_call (E := E) (takes_of rfl rfl rfl rfl) (fun _ _ _ _ h => h)) (pa_cons (pv 3) pa_nil)))
      (pss_cons (ps_asg (pv 3) (pg_tup (by rfl) (pgs_cons (pg_name (i := 4) scFar.nd rfl (Or.inl rfl)) (pgs_cons (pg_name (i := 5) scFar.nd rfl (Or.inl rfl)) pgs_nil))))
      (pss_one (ps_set (i := 2) scFar.nd rfl (Or.inl rfl) (pe_meth (pv 0) MC.c mO GO (hr.mono (by omega)) bO .nil pass0 (pa_cons (pv 4) (pa_cons (pv 5) (pa_cons (pv 2) pa_nil)))))))))
      (pss_one (ps_ret (pv 2))))), ?_⟩
    have st0 : L2.start (["self", "parts", "state", "part", "word", "count"] : List Str) [V.ref se, V.ref p, z] = [some (V.ref se), some (V.ref p), some z, none, none, none] := rfl
    rw [st0]
    obtain ⟨dx, r, d, hs, r1⟩ := id im
    rcases h with ⟨ix, d, hd, k⟩ | ⟨st, ps, rfl, lt, x5, ro, px⟩
    · exact ⟨_, rfl, se, dx, _, rfl, hs, rfl, _, rfl, .inr ⟨se, x, rows, z, d, rfl, im, ix, hd, k⟩⟩
    refine ⟨_, rfl, se, dx, _, rfl, hs, rfl, _, rfl, .inl ⟨se, x, rows, st, rfl, im, lt, fun H1 e1 => ?_⟩⟩
    have im1 := sqt_ex im e1
    have hs1 := e1 _ _ hs
    obtain ⟨as, a0, v0, y0, hq, few, hps, ha0, hv0, bad⟩ := px.ex e1
    have kl : ps.length < as.length := (List.getElem?_eq_some_iff.mp ha0).1
    have wos : ∀ q ∈ ps, WordOk x q.1 := fun q hq2 => by
      obtain ⟨i, hi, rfl⟩ := List.mem_iff_getElem.mp hq2
      exact (hps i (as[i]'(by omega)) ps[i].1 ps[i].2 (List.getElem?_eq_getElem (by omega)) (List.getElem?_eq_getElem hi)).2.1
    refine ⟨_, rfl, p, rfl, ⟨_, SqL.of hq⟩, ?_⟩
    refine for_wk (wk_l (K := K) (SqL.of hq)) (fun i σ' H' => Ex H1 H' ∧ i ≤ ps.length ∧ ∃ u3 u4 u5, σ' = [some (.ref se), some (.ref p), some (.int (farN x rows (ps.take i) st : Int)), u3, u4, u5]) ⟨Ex.refl _, Nat.zero_le _, none, none, none, rfl⟩ (fun i σ' H' p => p.1) ?_ ?_
    · rintro i y σ' H2 H3 hi ⟨rfl, hy⟩ ⟨e2, hle, u3, u4, u5, rfl⟩
      rw [List.length_map] at hi
      obtain ⟨a, ha⟩ : ∃ a, as[i]? = some a := ⟨_, List.getElem?_eq_getElem hi⟩
      have ey : y = .ref a := by
        rw [List.getElem?_map, ha] at hy
        exact (Option.some.inj hy).symm
      subst ey
      by_cases hk : i = ps.length
      · subst hk
        rw [ha0] at ha
        cases ha
        exact ⟨_, rfl, se, dx, _, rfl, e2 _ _ hs1, rfl, _, rfl, .inr ⟨se, a0, x, rows, v0, y0, rfl, sqt_ex im1 e2, e2 _ _ hv0, bad.ex e2⟩⟩
      obtain ⟨⟨wd, n⟩, hw⟩ : ∃ q, ps[i]? = some q := ⟨_, List.getElem?_eq_getElem (by omega)⟩
      obtain ⟨h1, wo, hn⟩ := hps i a wd n ha hw
      have lt2 := farN_lt ro (ps.take i) st (fun q hq => wos q (List.mem_of_mem_take hq)) lt
      refine ⟨_, rfl, se, dx, _, rfl, e2 _ _ hs1, rfl, _, rfl, .inl ⟨se, a, x, wd, rows, n, rfl, sqt_ex im1 e2, e2 _ _ h1, x5, wo, hn, fun H4 e4 => ?_⟩⟩
      have e14 := e2.trans e4
      dsimp only [List.set, gName]
      refine ⟨_, rfl, a, _, rfl, SqT.of (e14 _ _ h1), rfl, _, _, rfl, _, _, rfl, rfl, ?_⟩
      dsimp only [List.set, gName]
      refine ⟨_, rfl, se, dx, _, rfl, e14 _ _ hs1, rfl, _, rfl, _, rfl, _, rfl, se, x, wd, rows, n, farN x rows (ps.take i) st, rfl, sqt_ex im1 e14, x5, ro, wo, lt2, fun H5 e5 => ⟨(e2.trans e4).trans e5, by omega, some (.ref a), some (.str wd), some (.int (n : Int)), ?_⟩⟩
      have z : ps.take (i + 1) = ps.take i ++ [(wd, n)] := by rw [List.take_add_one, hw]; rfl
      rw [z, farN_snoc]
      rfl
    · rintro σ' H2 ⟨e2, hle, _⟩
      rw [List.length_map] at hle
      omega
theorem scMwt : FnScope ["self", "state"] ["self", "state"] (defScope sMwt) := ⟨rfl, rfl, rfl, by decide +kernel, rfl, by decide +kernel, by decide +kernel⟩
theorem ok_mwt2 {C fS : Addr} {fdS : FuncData} (F : FunD K "word_to" "Machine.word_to" (defArgs sMwt) (defBody sMwt) (defScope sMwt) [] [] f fd) (MC : MCls K C)
    (mS : Meth K C "require_state" fS) (GS : FnOk P w K mg base CX0 3 fS fdS ["self", "state"] (spRqs K C)) (bS : Binds K fdS ["self", "state"] []) : FnOk P w K mg base CX0 4 f fd ["self", "state"] (spMwt K C) := by
  refine F.ok scMwt (fun vs H Q E h => ?_) (fun cdv A outer s H vs Q E hr h => ?_)
  · obtain ⟨s, x, rows, st, rfl, _⟩ := h
    rfl
  · obtain ⟨s, x, rows, st, rfl, im, hst, k⟩ := h
    have hu := Nat.lt_of_le_of_lt (Nat.add_le_add_left (show 1 ≤ 64 by decide) _) hr.units
    refine ⟨_, PSs.nox (pss_cons (ps_expr (pe_meth (pv 0) MC.c mS GS (hr.mono (by decide)) bS .nil pass0 (pa_cons (pv 1) pa_nil)))
      (pss_one (ps_ret (pe_dget1 hu (pe_fld (pv 0) rfl) (pv 1) ⟨rfl, rfl, rfl, rfl⟩)))), ?_⟩
    obtain ⟨dx, r, d, hs, r1⟩ := id im
    refine ⟨_, rfl, s, dx, _, rfl, hs, rfl, _, rfl, s, x, rows, st, rfl, im, hst, fun H1 e1 => ?_⟩
    obtain ⟨hR, hd⟩ := r1
    have hd1 := e1 _ _ hd
    exact ⟨_, rfl, s, C, dx, _, .ref d, rfl, e1 _ _ hs, MC.c, MC.d, rfl, d, rfl, .inl ⟨_, .inl hd1⟩, _, rfl, _, .inl ⟨_, .inl (st : Int), .inl hd1, rfl, rfl⟩, k H1 e1⟩
end
end K03

-- base: law_k03_words_and_far_words
/-! odd counts -/
namespace K03
open PySem L2 L2H LamX LamV Evl OxK
def oddC : List Dt := [.f (.int (-1)), .f (.int cM3), .f .non, .f (.bl true), .f (.str "1"), .l [.f (.int 1)]]
def spOdc : Sp := fun vs H Q _ => ∃ (b l : Addr) (ns : List Int), vs = [.ref b] ∧ Bag H b l ns ∧ ∀ (v : V) (d : Dt) (H' : Hp), d ∈ oddC → Has (dl b H') 1 v d → Bag H' b l ns → Ex (dl b H) (dl b H') → Q v H'
theorem oddC_ix : ∀ d ∈ oddC, dIx d cM3 = false := by
  intro d hd
  simp only [oddC, List.mem_cons, List.mem_nil_iff, or_false] at hd
  rcases hd with rfl | rfl | rfl | rfl | rfl | rfl <;> first | rfl | (simp [dIx, isIx]; done)
section
variable {P : Program} {w : World} {K : PySem.W.Frag} {mg : Str → Option Value} {base : Heap} {f : Addr} {fd : FuncData}
theorem scOdc : FnScope ["_law_bag_here"] ["_law_bag_here"] (defScope sOdc) := ⟨rfl, rfl, rfl, by decide +kernel, rfl, by decide +kernel, by decide +kernel⟩
theorem ok_odc {fO : Addr} {fdO : FuncData} (F : FnP K "_law_odd_count" sOdc f fd) (GO : FnOk P w K mg base CX0 2 fO fdO ["_law_bag_here", "_law_things"] (spOf K)) (gO : mg "_law_of" = some (.ref fO)) (kO : PySem.W.keepIn K (.ref fO) = true) (bO : Binds K fdO ["_law_bag_here", "_law_things"] []) :
    FnOk P w K mg base CX0 3 f fd ["_law_bag_here"] spOdc := by
  refine F.ok scOdc (fun vs H Q E h => ?_) (fun cdv A outer s H vs Q E hr h => ?_)
  · obtain ⟨b, l, ns, rfl, _⟩ := h
    rfl
  · obtain ⟨b, l, ns, rfl, B, k⟩ := h
    refine ⟨_, PSs.nox (pss_one (ps_ret (pe_call GO hr rfl gO kO bO .nil pass0 (pa_cons (pv 0) (pa_cons (pe_lst (pa_cons (pe_un un_neg pe_int) (pa_cons (pe_op op_add (pe_op op_pow pe_int pe_int) pe_int) (pa_cons pe_non (pa_cons pe_bl (pa_cons pe_str (pa_cons (pe_lst (pa_cons pe_int pa_nil)) pa_nil))))))) pa_nil))))), ?_⟩
    refine q_retV ?_
    refine vd_of (n := 1) (ds := oddC) B (by rfl) (vda_cons (vd_f (ev_negI ev_c) True.intro) (vda_cons (vd_f (ev_addI (fun H1 e1 Q q => ?_) ev_c) True.intro) (vda_cons vd_c (vda_cons vd_c (vda_cons vd_c (vda_cons (vd_lst (vda_cons vd_c vda_nil) (by simp)) vda_nil)))))) (by simp [oddC]) (by simp [oddC]) fun kk v d H2 hk hv B2 e2 => k v d H2 (List.mem_of_getElem? hk) hv B2 e2
    exact ⟨_, _, rfl, rfl, (by unfold CPow; decide), q H1 (Ex.refl _)⟩
end
end K03

/-! zip over any number of lists: the next item, whatever became of the tuple handed out -/
namespace PySem
open PySem.W
def ZOf (h : Heap) (z TI TO : Addr) (f0 : Value) (f : Bool) : Prop := h.get? z = some { cls := .type "zip", dict := none, data := .fields #[f0, .bool f, .bool false, .ref TI, .ref TO], slots := #[] }
def TupL (h : Heap) (T : Addr) (vs : List Value) : Prop := h.get? T = some { cls := .type "tuple", data := .seq vs.toArray }
/-- refs to b, b + 1, .. -/
def refsAt (b : Nat) : Nat → List Value
  | 0 => []
  | n + 1 => .ref b :: refsAt (b + 1) n
theorem refsAt_len : ∀ (n b : Nat), (refsAt b n).length = n
  | 0, _ => rfl
  | n + 1, b => congrArg Nat.succ (refsAt_len n (b + 1))
/-- the sides: from the j-th on at k, those before at k + 1 -/
def Sds (b : Nat) (ls : List (Addr × Array Value)) (k j : Nat) (h : Heap) : Prop := ∀ (m : Nat) (p : Addr × Array Value), ls[m]? = some p → h.IsListIter (b + m) p.1 (if m < j then k + 1 else k) ∧ h.IsList p.1 p.2
structure Low (b : Nat) (ls : List (Addr × Array Value)) : Prop where
  low : ∀ p ∈ ls, (p.1 : Nat) < b
theorem Sds.but {b : Nat} {ls : List (Addr × Array Value)} {k j : Nat} {h h' : Heap} (S : Sds b ls k j h) (L : Low b ls) {c : Nat} (hc : b + ls.length ≤ c) (hk : ∀ (d : Addr) (o : Obj), (d : Nat) ≠ c → h.get? d = some o → h'.get? d = some o) : Sds b ls k j h' := fun m p hm => by
  obtain ⟨h1, h2⟩ := S m p hm
  have ml := (List.getElem?_eq_some_iff.mp hm).1
  have lo := L.low p (List.mem_of_getElem? hm)
  exact ⟨h1.at fun o e => hk (b + m) o (fun q => absurd q (show b + m ≠ c by omega)) e, h2.at fun o e => hk p.1 o (fun q => absurd (q ▸ lo) (show ¬ c < b by omega)) e⟩
theorem Sds.keep {b : Nat} {ls : List (Addr × Array Value)} {k j : Nat} {h h' : Heap} (S : Sds b ls k j h) (hk : ∀ (d : Addr) (o : Obj), h.get? d = some o → h'.get? d = some o) : Sds b ls k j h' := fun m p hm => by
  obtain ⟨h1, h2⟩ := S m p hm
  exact ⟨h1.at fun o e => hk _ o e, h2.at fun o e => hk _ o e⟩
theorem Sds.next {b : Nat} {ls : List (Addr × Array Value)} {k j : Nat} {h h' : Heap} {p : Addr × Array Value} (S : Sds b ls k j h) (L : Low b ls) (hj : ls[j]? = some p) (hit : h'.IsListIter (b + j) p.1 (k + 1)) (hs : Heap.SameBut (b + j) h h') : Sds b ls k (j + 1) h' := fun m q hm => by
  obtain ⟨h1, h2⟩ := S m q hm
  have lo := L.low q (List.mem_of_getElem? hm)
  have nl : (q.1 : Nat) ≠ b + j := Nat.ne_of_lt (Nat.lt_of_lt_of_le lo (Nat.le_add_right b j))
  refine ⟨?_, h2.extBut hs.extBut nl⟩
  by_cases e : m = j
  · subst e
    rw [hj] at hm
    cases hm
    rw [if_pos (Nat.lt_succ_self m)]
    exact hit
  · have ne : b + m ≠ b + j := by omega
    have z := h1.extBut hs.extBut ne
    by_cases lt : m < j
    · rw [if_pos (by omega)]
      rw [if_pos lt] at z
      exact z
    · rw [if_neg (by omega)]
      rw [if_neg lt] at z
      exact z
theorem Sds.turn {b : Nat} {ls : List (Addr × Array Value)} {k : Nat} {h : Heap} (S : Sds b ls k ls.length h) : Sds b ls (k + 1) 0 h := fun m p hm => by
  have z := S m p hm
  rw [if_pos (List.getElem?_eq_some_iff.mp hm).1] at z
  rw [if_neg (Nat.not_lt_zero m)]
  exact z
section
variable {prog : Program} {w : World} {A : Around} {E : Value → Shared → Prop} {s : Shared}
theorem wpAny_alive {a : Addr} {Q : Option Obj → Shared → Prop} (h : Q (s.heap.get? a) s) : wpAny (model prog w) A (loadIfAlive a) Q E s := fun _ _ _ => h
/-- the tuple handed out still stands, or not -/
theorem wpAny_owned {z TI TO : Addr} {f0 : Value} {f : Bool} {Q : Bool → Shared → Prop} (h0 : f0 = .none ∨ ∃ T : Nat, f0 = rawInt T) (hz : ZOf s.heap z TI TO f0 f)
    (h : ∀ r f' h', ZOf h' z TI TO f0 f' → Heap.SameBut z s.heap h' → Q r { s with heap := h' }) : wpAny (model prog w) A (Builtin.SmallTypes.ownedTupleIsFree (.ref z)) Q E s := by
  unfold Builtin.SmallTypes.ownedTupleIsFree
  refine wpAny_bind (wpAny_field hz rfl (x := f0) rfl ?_)
  rcases h0 with rfl | ⟨T, rfl⟩
  · exact wpAny_pure (h true f s.heap hz (Heap.SameBut.refl _ _))
  · show wpAny _ _ (loadIfAlive ((T : Int).toNat) >>= _) _ _ _
    rw [Int.toNat_natCast]
    refine wpAny_bind (wpAny_alive ?_)
    cases hT : s.heap.get? T with
    | none =>
      simp only [Option.isNone_none, if_true]
      exact wpAny_pure (h true f s.heap hz (Heap.SameBut.refl _ _))
    | some o =>
      simp only [Option.isNone_some, Bool.false_eq_true, if_false]
      refine wpAny_bind (wpAny_field hz rfl (x := .bool f) rfl ?_)
      cases f with
      | true =>
        rw [if_neg (show ¬ ((Value.bool true != Value.bool true) = true) from Bool.false_ne_true)]
        exact wpAny_pure (h false true s.heap hz (Heap.SameBut.refl _ _))
      | false =>
        rw [if_pos (show (Value.bool false != Value.bool true) = true from rfl)]
        exact wpAny_bind (wpAny_setField_rec hz (by simp) fun h₁ hz₁ hs₁ => wpAny_pure (h false true h₁ hz₁ hs₁))
theorem away {b n c j : Nat} (hc : c < b ∨ b + n + 3 ≤ c) (hj : j < n + 3) : c ≠ b + j := by omega
/-- what the sides hold at k -/
def valsAt (ls : List (Addr × Array Value)) (k : Nat) : List Value := ls.map fun p => p.2.getD k .none
/-- the next tuple -/
theorem zipN_next {b k : Nat} {ls : List (Addr × Array Value)} {z TI TO : Addr} {f0 : Value} {f : Bool} {old : List Value} {Q : Value → Shared → Prop} (h0 : f0 = .none ∨ ∃ T : Nat, f0 = rawInt T) (L : Low b ls) (n1 : 0 < ls.length) (n100 : ls.length ≤ 100) (bs : b + ls.length + 3 ≤ s.heap.objs.size)
    (hTIa : TI = b + ls.length) (hTOa : TO = b + ls.length + 1) (hza : z = b + ls.length + 2)
    (hz : ZOf s.heap z TI TO f0 f) (hTI : TupL s.heap TI (refsAt b ls.length)) (hTO : TupL s.heap TO old) (ol : old.length = ls.length) (S : Sds b ls k 0 s.heap) (hk : ∀ p ∈ ls, k < p.2.size)
    (hQ : ∀ T h' f0' f' old' tk, (f0' = .none ∨ ∃ T : Nat, f0' = rawInt T) → ZOf h' z TI TO f0' f' → TupL h' TI (refsAt b ls.length) → TupL h' TO old' → old'.length = ls.length → Sds b ls (k + 1) 0 h' → T = s.heap.objs.size → TupL h' T (valsAt ls k) → h'.objs.size = s.heap.objs.size + 1 →
      (∀ (c : Addr) (o : Obj), (c : Nat) < b ∨ b + ls.length + 3 ≤ (c : Nat) → s.heap.get? c = some o → h'.get? c = some o) → Q (.ref T) { s with heap := h', toks := tk }) :
    wpAny (model prog w) A (Builtin.«zip.__next__» ⟨[.ref z], []⟩) (fun fin s' => ∃ v, fin = .done (.ret v) ∧ Q v s') E s := by
  show wpAny _ _ (field (.ref z) 2 >>= _) _ _ _
  refine wpAny_bind (wpAny_field hz rfl (x := .bool false) rfl ?_)
  show wpAny _ _ (field (.ref z) 3 >>= _) _ _ _
  refine wpAny_bind (wpAny_field hz rfl (x := .ref TI) rfl ?_)
  refine wpAny_bind (wpAny_seqItems hTI rfl ?_)
  have ne0 : (refsAt b ls.length).toArray.isEmpty = false := by
    obtain ⟨m, hm⟩ : ∃ m, ls.length = m + 1 := ⟨ls.length - 1, by omega⟩
    rw [hm]
    rfl
  dsimp only
  rw [ne0]
  simp only [Bool.false_eq_true, if_false]
  refine wpAny_bind (wpAny_owned h0 hz fun r f1 g1 hz1 hs1 => ?_)
  have S1 : Sds b ls k 0 g1 := S.but L (c := z) (by rw [hza]; exact Nat.le_add_right _ 2) fun d o hd e => hs1.extBut d o hd e
  have vl : (valsAt ls k).length = ls.length := by simp [valsAt]
  have TIz : TI ≠ z := by rw [hTIa, hza]; exact Nat.ne_of_lt (by omega)
  have TOz : TO ≠ z := by rw [hTOa, hza]; exact Nat.ne_of_lt (by omega)
  have TITO : TI ≠ TO := by rw [hTIa, hTOa]; exact Nat.ne_of_lt (by omega)
  have step : ∀ (j : Nat) (h2 : Heap), j < ls.length → Sds b ls k j h2 → ∃ p x, ls[j]? = some p ∧ p.2[k]? = some x ∧ (valsAt ls k).take (j + 1) = (valsAt ls k).take j ++ [x] ∧ h2.IsListIter (b + j) p.1 k ∧ h2.IsList p.1 p.2 := fun j h2 hj S2 => by
    obtain ⟨p, hp⟩ : ∃ p, ls[j]? = some p := ⟨_, List.getElem?_eq_getElem hj⟩
    have kp := hk p (List.mem_of_getElem? hp)
    obtain ⟨q1, q2⟩ := S2 j p hp
    rw [if_neg (Nat.lt_irrefl j)] at q1
    refine ⟨p, p.2.getD k .none, hp, ?_, ?_, q1, q2⟩
    · simp [Array.getD, kp]
    · rw [List.take_add_one]
      unfold valsAt
      rw [List.getElem?_map, hp]
      rfl
  cases r with
  | false =>
    simp only [Bool.false_eq_true, if_false]
    refine wpAny_bind ?_
    rw [← Array.forIn_toList]
    refine wpAny_forIn_list _ (fun rem (r : Option Fin × Array Value) s' => ∃ (j : Nat) (acc : Array Value) (h' : Heap), rem = refsAt (b + j) (ls.length - j) ∧ j ≤ ls.length ∧ r = (none, acc) ∧ acc.toList = (valsAt ls k).take j ∧ s' = { s with heap := h' } ∧ Sds b ls k j h' ∧
      h'.objs.size = s.heap.objs.size ∧ ZOf h' z TI TO f0 f1 ∧ TupL h' TI (refsAt b ls.length) ∧ TupL h' TO old ∧ ∀ (c : Addr) (o : Obj), (c : Nat) < b ∨ b + ls.length + 3 ≤ (c : Nat) → s.heap.get? c = some o → h'.get? c = some o) _ ?_ ?_ _ _ ?_
    · rintro it rest r s' ⟨j, acc, h2, hrem, hj, rfl, hacc, rfl, S2, sz2, z2, t2, o2, k2⟩
      have hj2 : j < ls.length := by
        rcases Nat.lt_or_ge j ls.length with q | q
        · exact q
        · have : ls.length - j = 0 := by omega
          rw [this] at hrem
          cases hrem
      obtain ⟨m, hm⟩ : ∃ m, ls.length - j = m + 1 := ⟨ls.length - j - 1, by omega⟩
      rw [hm] at hrem
      have e1 := (List.cons.inj hrem).1
      have e2 := (List.cons.inj hrem).2
      subst e1
      obtain ⟨p, x, hp, hx, hv, q1, q2⟩ := step j h2 hj2 S2
      dsimp only
      refine wpAny_bind (wpAny_holding ?_)
      show wpAny _ _ (Builtin.SmallTypes.nextOf (.ref (b + j)) >>= _) _ _ _
      refine wpAny_bind (wpAny_nextOf_list_item (s := { s with heap := h2 }) q1 q2 hx fun h3 it3 sb => wpAny_pure ?_)
      refine wpAny_pure ⟨j + 1, acc.push x, h3, ?_, hj2, rfl, ?_, rfl, S2.next L hp it3 sb, ?_, ?_, ?_, ?_, ?_⟩
      · rw [e2]
        have z : ls.length - (j + 1) = m := by omega
        rw [z]
        rfl
      · rw [Array.toList_push, hacc, hv]
      · rw [sb.1]; exact sz2
      · exact sb.extBut _ _ (by rw [hza]; exact Nat.ne_of_gt (by omega)) z2
      · exact sb.extBut _ _ (by rw [hTIa]; exact Nat.ne_of_gt (by omega)) t2
      · exact sb.extBut _ _ (by rw [hTOa]; exact Nat.ne_of_gt (by omega)) o2
      · exact fun c o hc e => sb.extBut _ _ (fun q => away hc (show j < ls.length + 3 by omega) q) (k2 c o hc e)
    · rintro r s' ⟨j, acc, h2, hrem, hj, rfl, hacc, rfl, S2, sz2, z2, t2, o2, k2⟩
      have je : j = ls.length := by
        rcases Nat.lt_or_ge j ls.length with q | q
        · obtain ⟨m, hm⟩ : ∃ m, ls.length - j = m + 1 := ⟨ls.length - j - 1, by omega⟩
          rw [hm] at hrem
          cases hrem
        · omega
      subst je
      dsimp only
      refine wpAny_bind (wpAny_newTuple (hsz := by rw [hacc, List.length_take]; exact Nat.le_trans (Nat.le_trans (Nat.min_le_left _ _) n100) (by decide)) ?_)
      refine wpAny_pure ⟨_, rfl, ?_⟩
      have va : acc.toList = valsAt ls k := by rw [hacc]; exact List.take_of_length_le (by omega)
      have hp : TupL (h2.push { cls := .type "tuple", data := .seq acc.toList.toArray }) h2.objs.size (valsAt ls k) := by
        rw [va]
        exact Heap.get?_push_size _ rfl
      have up : ∀ (c : Addr) (o : Obj), h2.get? c = some o → (h2.push { cls := .type "tuple", data := .seq acc.toList.toArray }).get? c = some o := fun c o e => Heap.get?_push_of_some _ e
      have hsz : (h2.push { cls := .type "tuple", data := .seq acc.toList.toArray }).objs.size = h2.objs.size + 1 := Heap.size_push ..
      exact hQ h2.objs.size _ f0 f1 old _ h0 (up _ _ z2) (up _ _ t2) (up _ _ o2) ol (S2.turn.keep up) sz2 hp (by rw [hsz, sz2]) fun c o hc e => up c o (k2 c o hc e)
    · exact ⟨0, #[], g1, rfl, Nat.zero_le _, rfl, rfl, rfl, S1, hs1.1, hz1, hs1.extBut _ _ TIz hTI, hs1.extBut _ _ TOz hTO, fun c o hc e => hs1.extBut _ _ (fun q => away hc (show ls.length + 2 < ls.length + 3 by omega) (q.trans hza)) e⟩
  | true =>
    simp only [if_true]
    refine wpAny_bind (wpAny_rule ?_)
    refine wpAny_bind (wpAny_field hz1 rfl (x := .ref TO) rfl ?_)
    dsimp only
    refine wpAny_bind (wpAny_setField_rec hz1 (by simp) fun g2 hz2 hs2 => ?_)
    replace hz2 : ZOf g2 z TI TO .ellipsis f1 := hz2
    have S2 : Sds b ls k 0 g2 := S1.but L (c := z) (by rw [hza]; exact Nat.le_add_right _ 2) fun d o hd e => hs2.extBut d o hd e
    refine wpAny_bind ?_
    refine wpAny_forIn_list _ (fun rem (r : Option Fin × Unit) s' => ∃ (j : Nat) (acc : List Value) (h' : Heap), rem = (refsAt (b + j) (ls.length - j)).zipIdx j ∧ j ≤ ls.length ∧ r = (none, ()) ∧ acc.length = ls.length ∧ acc.take j = (valsAt ls k).take j ∧ s' = { s with heap := h' } ∧ Sds b ls k j h' ∧
      h'.objs.size = s.heap.objs.size ∧ ZOf h' z TI TO .ellipsis f1 ∧ TupL h' TI (refsAt b ls.length) ∧ TupL h' TO acc ∧ ∀ (c : Addr) (o : Obj), (c : Nat) < b ∨ b + ls.length + 3 ≤ (c : Nat) → s.heap.get? c = some o → h'.get? c = some o) _ ?_ ?_ _ _ ?_
    · rintro ⟨it, kk⟩ rest r s' ⟨j, acc, h2, hrem, hj, rfl, al, hacc, rfl, S2, sz2, z2, t2, o2, k2⟩
      have hj2 : j < ls.length := by
        rcases Nat.lt_or_ge j ls.length with q | q
        · exact q
        · have : ls.length - j = 0 := by omega
          rw [this] at hrem
          cases hrem
      obtain ⟨m, hm⟩ : ∃ m, ls.length - j = m + 1 := ⟨ls.length - j - 1, by omega⟩
      rw [hm] at hrem
      have hrem2 : (it, kk) :: rest = (Value.ref (b + j), j) :: (refsAt (b + j + 1) m).zipIdx (j + 1) := hrem
      have e1 := (List.cons.inj hrem2).1
      have e2 := (List.cons.inj hrem2).2
      have e3 : it = Value.ref (b + j) := (Prod.mk.inj e1).1
      have e4 : j = kk := (Prod.mk.inj e1).2.symm
      subst e3
      subst e4
      obtain ⟨p, x, hp, hx, hv, q1, q2⟩ := step j h2 hj2 S2
      dsimp only
      refine wpAny_bind (wpAny_onRaise ?_)
      show wpAny _ _ (Builtin.SmallTypes.nextOf (.ref (b + j)) >>= _) _ _ _
      refine wpAny_bind (wpAny_nextOf_list_item (s := { s with heap := h2 }) q1 q2 hx fun h3 it3 sb => wpAny_pure ?_)
      dsimp only
      have o3 : TupL h3 TO acc := sb.extBut _ _ (by rw [hTOa]; exact Nat.ne_of_gt (by omega)) o2
      refine wpAny_bind (wpAny_seqItems (s := { s with heap := h3 }) o3 rfl ?_)
      dsimp only
      have asz : acc.toArray.size ≤ sizeLine := by rw [List.size_toArray, al]; exact Nat.le_trans n100 (by decide)
      refine wpAny_bind (wpAny_updateSeq (s := { s with heap := h3 }) o3 rfl ?_ asz (by rw [Array.size_setIfInBounds]; exact Nat.le_succ_of_le asz))
      have sb2 : Heap.SameBut TO h3 (h3.update TO (Obj.mapSeq (·.setIfInBounds j x))) := Heap.SameBut.update ..
      have o4 : TupL (h3.update TO (Obj.mapSeq (·.setIfInBounds j x))) TO (acc.set j x) := by
        have z := Heap.get?_update_self (Obj.mapSeq (·.setIfInBounds j x)) o3 rfl
        refine z.trans ?_
        simp [Obj.mapSeq]
      revert sb2 o4
      generalize h3.update TO (Obj.mapSeq (·.setIfInBounds j x)) = h4
      intro sb2 o4
      refine wpAny_bind (wpAny_letGo (wpAny_pure ⟨j + 1, acc.set j x, h4, ?_, hj2, rfl, by rw [List.length_set]; exact al, ?_, rfl, (S2.next L hp it3 sb).but L (c := TO) (by rw [hTOa]; exact Nat.le_add_right _ 1) (fun d o hd e => sb2.extBut d o hd e), ?_, ?_, ?_, o4, ?_⟩))
      · rw [e2]
        have z : ls.length - (j + 1) = m := by omega
        rw [z]
        rfl
      · have aj : j < acc.length := by omega
        rw [hv, ← hacc, List.take_add_one, List.take_set_of_le (Nat.le_refl j), List.getElem?_set_self aj]
        rfl
      · rw [sb2.1, sb.1]; exact sz2
      · exact sb2.extBut _ _ TOz.symm (sb.extBut _ _ (by rw [hza]; exact Nat.ne_of_gt (by omega)) z2)
      · exact sb2.extBut _ _ TITO (sb.extBut _ _ (by rw [hTIa]; exact Nat.ne_of_gt (by omega)) t2)
      · exact fun c o hc e => sb2.extBut _ _ (fun q => away hc (show ls.length + 1 < ls.length + 3 by omega) (q.trans hTOa)) (sb.extBut _ _ (fun q => away hc (show j < ls.length + 3 by omega) q) (k2 c o hc e))
    · rintro r s' ⟨j, acc, h2, hrem, hj, rfl, al, hacc, rfl, S2, sz2, z2, t2, o2, k2⟩
      have je : j = ls.length := by
        rcases Nat.lt_or_ge j ls.length with q | q
        · obtain ⟨m, hm⟩ : ∃ m, ls.length - j = m + 1 := ⟨ls.length - j - 1, by omega⟩
          rw [hm] at hrem
          cases hrem
        · omega
      subst je
      have va : acc = valsAt ls k := by
        rw [List.take_of_length_le (by omega), List.take_of_length_le (by omega)] at hacc
        exact hacc
      subst va
      dsimp only
      refine wpAny_bind (wpAny_seqItems (s := { s with heap := h2 }) o2 rfl ?_)
      dsimp only
      refine wpAny_bind (wpAny_newTuple (hsz := by rw [al]; exact Nat.le_trans n100 (by decide)) ?_)
      have hp : TupL (h2.push { cls := .type "tuple", data := .seq (valsAt ls k).toArray.toList.toArray }) h2.objs.size (valsAt ls k) := Heap.get?_push_size _ rfl
      have up : ∀ (c : Addr) (o : Obj), h2.get? c = some o → (h2.push { cls := .type "tuple", data := .seq (valsAt ls k).toArray.toList.toArray }).get? c = some o := fun c o e => Heap.get?_push_of_some _ e
      have hsz : (h2.push { cls := .type "tuple", data := .seq (valsAt ls k).toArray.toList.toArray }).objs.size = h2.objs.size + 1 := Heap.size_push ..
      have z3 := up _ _ z2
      have S3 := S2.turn.keep up
      have t3 := up _ _ t2
      have o3 := up _ _ o2
      revert hp up hsz z3 S3 t3 o3
      generalize h2.push { cls := .type "tuple", data := .seq (valsAt ls k).toArray.toList.toArray } = h3
      intro hp up hsz z3 S3 t3 o3
      show wpAny _ _ (Builtin.SmallTypes.ownedTupleHandOut (.ref z) (.ref h2.objs.size) >>= _) _ _ { s with heap := h3 }
      refine wpAny_bind ?_
      unfold Builtin.SmallTypes.ownedTupleHandOut
      refine wpAny_bind (wpAny_setField_rec z3 (by simp) fun h₇ hz₇ hs₇ => ?_)
      replace hz₇ : ZOf h₇ z TI TO (rawInt h2.objs.size) f1 := hz₇
      refine wpAny_setField_rec hz₇ (by simp) fun h₈ hz₈ hs₈ => ?_
      replace hz₈ : ZOf h₈ z TI TO (rawInt h2.objs.size) false := hz₈
      have k8 : ∀ (c : Addr) (o : Obj), c ≠ z → h3.get? c = some o → h₈.get? c = some o := fun c o hc e => hs₈.extBut c o hc (hs₇.extBut c o hc e)
      have zz : h2.objs.size ≠ z := by rw [hza, sz2]; exact Nat.ne_of_gt (by omega)
      refine wpAny_pure ⟨_, rfl, ?_⟩
      exact hQ h2.objs.size h₈ (rawInt h2.objs.size) false (valsAt ls k) s.toks (.inr ⟨_, rfl⟩) hz₈ (k8 _ _ TIz t3) (k8 _ _ TOz o3) vl (S3.but L (c := z) (by rw [hza]; exact Nat.le_add_right _ 2) fun d o hd e => k8 d o hd e) sz2 (k8 _ _ zz hp) (by rw [hs₈.1, hs₇.1, hsz, sz2])
        fun c o hc e => k8 c o (fun q => away hc (show ls.length + 2 < ls.length + 3 by omega) (q.trans hza)) (up c o (k2 c o hc e))
    · exact ⟨0, old, g2, rfl, Nat.zero_le _, rfl, ol, rfl, rfl, S2, by rw [hs2.1, hs1.1], hz2, hs2.extBut _ _ TIz (hs1.extBut _ _ TIz hTI), hs2.extBut _ _ TOz (hs1.extBut _ _ TOz hTO), fun c o hc e => hs2.extBut _ _ (fun q => away hc (show ls.length + 2 < ls.length + 3 by omega) (q.trans hza)) (hs1.extBut _ _ (fun q => away hc (show ls.length + 2 < ls.length + 3 by omega) (q.trans hza)) e)⟩
end
end PySem

/-! zip over any number of lists: the end; next(..); how it begins -/
namespace PySem
open PySem.W
section
variable {prog : Program} {w : World} {A : Around} {E : Value → Shared → Prop} {s : Shared}
theorem zipN_end {b k : Nat} {ls : List (Addr × Array Value)} {z TI TO : Addr} {f0 : Value} {f : Bool} {Q : Fin → Shared → Prop} (hh : A.handled = none) (h0 : f0 = .none ∨ ∃ T : Nat, f0 = rawInt T) (L : Low b ls) (n1 : 0 < ls.length)
    (hTIa : TI = b + ls.length) (hTOa : TO = b + ls.length + 1) (hza : z = b + ls.length + 2)
    (hz : ZOf s.heap z TI TO f0 f) (hTI : TupL s.heap TI (refsAt b ls.length)) (S : Sds b ls k 0 s.heap) (hk : ∀ p, ls[0]? = some p → k = p.2.size)
    (hE : ∀ h' tk e, (∀ (c : Addr) (o : Obj), (c : Nat) < b ∨ b + ls.length + 3 ≤ (c : Nat) → s.heap.get? c = some o → h'.get? c = some o) → (∃ o, h'.get? e = some o ∧ o.cls = .type "StopIteration") → E (.ref e) { s with heap := h', toks := tk }) :
    wpAny (model prog w) A (Builtin.«zip.__next__» ⟨[.ref z], []⟩) Q E s := by
  show wpAny _ _ (field (.ref z) 2 >>= _) _ _ _
  refine wpAny_bind (wpAny_field hz rfl (x := .bool false) rfl ?_)
  show wpAny _ _ (field (.ref z) 3 >>= _) _ _ _
  refine wpAny_bind (wpAny_field hz rfl (x := .ref TI) rfl ?_)
  refine wpAny_bind (wpAny_seqItems hTI rfl ?_)
  obtain ⟨m, hm⟩ : ∃ m, ls.length = m + 1 := ⟨ls.length - 1, by omega⟩
  have ne0 : (refsAt b ls.length).toArray.isEmpty = false := by rw [hm]; rfl
  dsimp only
  rw [ne0]
  simp only [Bool.false_eq_true, if_false]
  refine wpAny_bind (wpAny_owned h0 hz fun r f1 g1 hz1 hs1 => ?_)
  have S1 : Sds b ls k 0 g1 := S.but L (c := z) (by rw [hza]; exact Nat.le_add_right _ 2) fun d o hd e => hs1.extBut d o hd e
  obtain ⟨p, hp⟩ : ∃ p, ls[0]? = some p := ⟨_, List.getElem?_eq_getElem n1⟩
  have kp := hk p hp
  have hx : p.2[k]? = none := by rw [kp]; simp
  cases r with
  | false =>
    simp only [Bool.false_eq_true, if_false]
    refine wpAny_bind ?_
    rw [← Array.forIn_toList, hm]
    show wpAny _ _ (forIn (Value.ref b :: refsAt (b + 1) m) _ _) _ _ _
    rw [List.forIn_cons]
    refine wpAny_bind ?_
    dsimp only
    refine wpAny_bind (wpAny_holding ?_)
    show wpAny _ _ (Builtin.SmallTypes.nextOf (.ref b) >>= _) _ _ _
    obtain ⟨q1, q2⟩ := S1 0 p hp
    rw [if_neg (Nat.lt_irrefl 0)] at q1
    refine wpAny_bind (wpAny_nextOf_list_end (s := { s with heap := g1 }) hh q1 q2 hx fun h₂ e hs₂ he => ?_)
    exact hE h₂ s.toks e (fun c o hc x => hs₂ _ _ (away hc (show 0 < ls.length + 3 by omega)) (hs1.extBut _ _ (fun q => away hc (show ls.length + 2 < ls.length + 3 by omega) (q.trans hza)) x)) he
  | true =>
    simp only [if_true]
    refine wpAny_bind (wpAny_rule ?_)
    refine wpAny_bind (wpAny_field hz1 rfl (x := .ref TO) rfl ?_)
    dsimp only
    refine wpAny_bind (wpAny_setField_rec hz1 (by simp) fun g2 hz2 hs2 => ?_)
    replace hz2 : ZOf g2 z TI TO .ellipsis f1 := hz2
    have S2 : Sds b ls k 0 g2 := S1.but L (c := z) (by rw [hza]; exact Nat.le_add_right _ 2) fun d o hd e => hs2.extBut d o hd e
    refine wpAny_bind ?_
    rw [hm]
    show wpAny _ _ (forIn ((Value.ref b, 0) :: (refsAt (b + 1) m).zipIdx 1) _ _) _ _ _
    rw [List.forIn_cons]
    refine wpAny_bind ?_
    dsimp only
    refine wpAny_bind (wpAny_onRaise ?_)
    show wpAny _ _ (Builtin.SmallTypes.nextOf (.ref b) >>= _) _ _ _
    obtain ⟨q1, q2⟩ := S2 0 p hp
    rw [if_neg (Nat.lt_irrefl 0)] at q1
    have hbz : z ≠ b := by rw [hza]; exact Nat.ne_of_gt (by omega)
    refine wpAny_bind (wpAny_nextOf_list_end (s := { s with heap := g2 }) hh q1 q2 hx fun h₂ e hs₂ he => ?_)
    obtain ⟨oe, hoe, hce⟩ := he
    have hzq : ZOf h₂ z TI TO .ellipsis f1 := hs₂ _ _ hbz hz2
    have hez : e ≠ z := fun x => by
      rw [x] at hoe
      rw [show h₂.get? z = _ from hzq] at hoe
      cases hoe
      simp at hce
    refine wpAny_setField_rec (s := { s with heap := h₂ }) hzq (by simp) fun q' _ hq' => ?_
    exact hE q' s.toks e (fun c o hc x => hq'.extBut _ _ (fun q => away hc (show ls.length + 2 < ls.length + 3 by omega) (q.trans hza)) (hs₂ _ _ (away hc (show 0 < ls.length + 3 by omega)) (hs2.extBut _ _ (fun q => away hc (show ls.length + 2 < ls.length + 3 by omega) (q.trans hza)) (hs1.extBut _ _ (fun q => away hc (show ls.length + 2 < ls.length + 3 by omega) (q.trans hza)) x)))) ⟨oe, hq'.extBut _ _ hez hoe, hce⟩
/-- the state between two turns -/
structure ZAt (b k : Nat) (ls : List (Addr × Array Value)) (h : Heap) : Prop where
  z : ∃ f0 f, (f0 = .none ∨ ∃ T : Nat, f0 = rawInt T) ∧ ZOf h (b + ls.length + 2) (b + ls.length) (b + ls.length + 1) f0 f
  ti : TupL h (b + ls.length) (refsAt b ls.length)
  to_ : ∃ old, TupL h (b + ls.length + 1) old ∧ old.length = ls.length
  sd : Sds b ls k 0 h
theorem ZAt.lt {b k : Nat} {ls : List (Addr × Array Value)} {h : Heap} (Z : ZAt b k ls h) : b + ls.length + 3 ≤ h.objs.size := by
  obtain ⟨f0, f, _, hz⟩ := Z.z
  have := Heap.lt_size hz
  exact this
theorem pyNext_zipN_item {b k : Nat} {ls : List (Addr × Array Value)} {Q : Option Value → Shared → Prop} (L : Low b ls) (n1 : 0 < ls.length) (n100 : ls.length ≤ 100) (Z : ZAt b k ls s.heap) (hk : ∀ p ∈ ls, k < p.2.size)
    (hQ : ∀ h' tk, ZAt b (k + 1) ls h' → TupL h' s.heap.objs.size (valsAt ls k) → h'.objs.size = s.heap.objs.size + 1 → (∀ (c : Addr) (o : Obj), (c : Nat) < b ∨ b + ls.length + 3 ≤ (c : Nat) → s.heap.get? c = some o → h'.get? c = some o) → Q (some (.ref s.heap.objs.size)) { s with heap := h', toks := tk }) :
    wpAny (model prog w) A (pyNext (.ref (b + ls.length + 2))) Q E s := by
  obtain ⟨f0, f, h0, hz⟩ := Z.z
  obtain ⟨old, ho, ol⟩ := Z.to_
  have hT : s.TypeIs (.ref (b + ls.length + 2)) "zip" := ⟨_, hz, rfl⟩
  unfold pyNext
  exact wpAny_bind (wpAny_attempt (wpAny_callSpecial?_slot (name := Str.ofString "__next__") hT F.slot_zip_next
    (wpAny_call_entry F.slot_zip_next hT F.entry_zip_next
      (zipN_next h0 L n1 n100 Z.lt rfl rfl rfl hz Z.ti ho ol Z.sd hk fun T h' f0' f' old' tk a1 a2 a3 a4 a5 a6 a7 a8 a9 a10 => by
        subst a7
        exact wpAny_pure (hQ h' tk ⟨⟨_, _, a1, a2⟩, a3, ⟨_, a4, a5⟩, a6⟩ a8 a9 a10)) (F.args_zip_next_1 _))))
theorem pyNext_zipN_end {b k : Nat} {ls : List (Addr × Array Value)} {Q : Option Value → Shared → Prop} (hh : A.handled = none) (L : Low b ls) (n1 : 0 < ls.length) (Z : ZAt b k ls s.heap) (hk : ∀ p, ls[0]? = some p → k = p.2.size)
    (hQ : ∀ h' tk, (∀ (c : Addr) (o : Obj), (c : Nat) < b ∨ b + ls.length + 3 ≤ (c : Nat) → s.heap.get? c = some o → h'.get? c = some o) → Q none { s with heap := h', toks := tk }) :
    wpAny (model prog w) A (pyNext (.ref (b + ls.length + 2))) Q E s := by
  obtain ⟨f0, f, h0, hz⟩ := Z.z
  have hT : s.TypeIs (.ref (b + ls.length + 2)) "zip" := ⟨_, hz, rfl⟩
  unfold pyNext
  refine wpAny_bind (wpAny_attempt (wpAny_callSpecial?_slot (name := Str.ofString "__next__") hT F.slot_zip_next
    (wpAny_call_entry F.slot_zip_next hT F.entry_zip_next (zipN_end hh h0 L n1 rfl rfl rfl hz Z.ti Z.sd hk fun h' tk e hk2 he => ?_) (F.args_zip_next_1 _))))
  obtain ⟨o, ho, hc⟩ := he
  refine wpAny_bind (wpAny_isInstance (T := "StopIteration") (b := true) ⟨o, ho, hc⟩ isSubtype_stop ?_)
  exact wpAny_pure (hQ _ _ hk2)
end
end PySem

/-! zip(a, b, ..) begins -/
namespace PySem
open PySem.W
theorem F.typeCall_zip_1 (a : Value) : checkTypeCall "zip" ⟨[a], []⟩ = pure () := by kernel_rfl
theorem F.typeCall_zip_4 (a b c d : Value) : checkTypeCall "zip" ⟨[a, b, c, d], []⟩ = pure () := by kernel_rfl
theorem F.typeCall_zip_5 (a b c d e : Value) : checkTypeCall "zip" ⟨[a, b, c, d, e], []⟩ = pure () := by kernel_rfl
theorem F.typeCall_zip_6 (a b c d e f : Value) : checkTypeCall "zip" ⟨[a, b, c, d, e, f], []⟩ = pure () := by kernel_rfl
theorem F.newCall_zip_1 (a : Value) : checkBuiltinCall "zip.__new__" ⟨[.type "zip", a], []⟩ = pure () := by kernel_rfl
theorem F.newCall_zip_4 (a b c d : Value) : checkBuiltinCall "zip.__new__" ⟨[.type "zip", a, b, c, d], []⟩ = pure () := by kernel_rfl
theorem F.newCall_zip_5 (a b c d e : Value) : checkBuiltinCall "zip.__new__" ⟨[.type "zip", a, b, c, d, e], []⟩ = pure () := by kernel_rfl
theorem F.newCall_zip_6 (a b c d e f : Value) : checkBuiltinCall "zip.__new__" ⟨[.type "zip", a, b, c, d, e, f], []⟩ = pure () := by kernel_rfl
theorem F.args_object_init_5 (obj a b c d : Value) : argsOk "object.__init__" ⟨[obj, a, b, c, d], []⟩ := by
  unfold argsOk; rw [signature?_of (id := "object.__init__") (n := ['_', '_', 'i', 'n', 'i', 't', '_', '_'].reverse) (o := ['o', 'b', 'j', 'e', 'c', 't'].reverse) (by kernel_rfl) owner_object]; kernel_rfl
theorem F.args_object_init_6 (obj a b c d e : Value) : argsOk "object.__init__" ⟨[obj, a, b, c, d, e], []⟩ := by
  unfold argsOk; rw [signature?_of (id := "object.__init__") (n := ['_', '_', 'i', 'n', 'i', 't', '_', '_'].reverse) (o := ['o', 'b', 'j', 'e', 'c', 't'].reverse) (by kernel_rfl) owner_object]; kernel_rfl
theorem F.args_object_init_7 (obj a b c d e f : Value) : argsOk "object.__init__" ⟨[obj, a, b, c, d, e, f], []⟩ := by
  unfold argsOk; rw [signature?_of (id := "object.__init__") (n := ['_', '_', 'i', 'n', 'i', 't', '_', '_'].reverse) (o := ['o', 'b', 'j', 'e', 'c', 't'].reverse) (by kernel_rfl) owner_object]; kernel_rfl
theorem refsAt_snoc : ∀ (n b : Nat), refsAt b (n + 1) = refsAt b n ++ [.ref (b + n)]
  | 0, b => rfl
  | n + 1, b => by
    show Value.ref b :: refsAt (b + 1) (n + 1) = Value.ref b :: (refsAt (b + 1) n ++ _)
    rw [refsAt_snoc n (b + 1)]
    have e : b + 1 + n = b + (n + 1) := by omega
    rw [e]
def lrefs (ls : List (Addr × Array Value)) : List Value := ls.map fun p => .ref p.1
section
variable {prog : Program} {w : World} {A : Around} {E : Value → Shared → Prop} {s : Shared}
/-- the iterators -/
theorem wpAny_iterAll {ls : List (Addr × Array Value)} {Q : List Value → Shared → Prop} (hl : ∀ p ∈ ls, s.heap.IsList p.1 p.2)
    (h : ∀ h', Sds s.heap.objs.size ls 0 0 h' → h'.objs.size = s.heap.objs.size + ls.length → (∀ (c : Addr) (o : Obj), s.heap.get? c = some o → h'.get? c = some o) → Q (refsAt s.heap.objs.size ls.length) { s with heap := h' }) :
    wpAny (model prog w) A (Builtin.SmallTypes.iterAll (lrefs ls)) Q E s := by
  unfold Builtin.SmallTypes.iterAll
  refine wpAny_bind ?_
  refine wpAny_forIn_list _ (fun rem (r : Array Value) s' => ∃ (j : Nat) (h' : Heap), rem = (lrefs ls).drop j ∧ j ≤ ls.length ∧ r.toList = refsAt s.heap.objs.size j ∧ s' = { s with heap := h' } ∧ h'.objs.size = s.heap.objs.size + j ∧
    (∀ (c : Addr) (o : Obj), s.heap.get? c = some o → h'.get? c = some o) ∧ ∀ (m : Nat) (p : Addr × Array Value), m < j → ls[m]? = some p → h'.IsListIter (s.heap.objs.size + m) p.1 0) _ ?_ ?_ _ _ ?_
  · rintro x rest r s' ⟨j, h2, hrem, hj, hr, rfl, sz, k2, it2⟩
    have hj2 : j < ls.length := by
      rcases Nat.lt_or_ge j ls.length with q | q
      · exact q
      · rw [List.drop_of_length_le (by simp [lrefs]; exact q)] at hrem
        cases hrem
    have hd : (lrefs ls).drop j = .ref (ls[j]).1 :: (lrefs ls).drop (j + 1) := by
      have hl2 : j < (lrefs ls).length := by simp [lrefs]; exact hj2
      rw [List.drop_eq_getElem_cons hl2]
      congr 1
      simp [lrefs]
    rw [hd] at hrem
    have e1 := (List.cons.inj hrem).1
    have e2 := (List.cons.inj hrem).2
    subst e1
    have hlj := hl _ (List.getElem_mem hj2)
    refine wpAny_bind (wpAny_holding ?_)
    refine wpAny_pyIter_list (s := { s with heap := h2 }) (items := (ls[j]).2) (hlj.at fun o e => k2 _ o e) ?_
    refine wpAny_pure ⟨j + 1, _, e2, hj2, ?_, rfl, ?_, fun c o e => Heap.get?_push_of_some _ (k2 c o e), fun m p hm hp => ?_⟩
    · rw [Array.toList_push, hr]
      show refsAt s.heap.objs.size j ++ [Value.ref h2.objs.size] = _
      rw [sz]
      exact (refsAt_snoc j s.heap.objs.size).symm
    · rw [Heap.size_push, sz]
      rfl
    · by_cases q : m < j
      · exact (it2 m p q hp).at fun o e => Heap.get?_push_of_some _ e
      · have mj : m = j := by omega
        subst mj
        have : p = ls[m] := by
          rw [List.getElem?_eq_getElem hj2] at hp
          exact (Option.some.inj hp).symm
        subst this
        rw [← sz]
        exact ⟨_, Heap.get?_push_size _ rfl, rfl, rfl⟩
  · rintro r s' ⟨j, h2, hrem, hj, hr, rfl, sz, k2, it2⟩
    have je : j = ls.length := by
      rcases Nat.lt_or_ge j ls.length with q | q
      · have hl2 : j < (lrefs ls).length := by simp [lrefs]; exact q
        rw [List.drop_eq_getElem_cons hl2] at hrem
        cases hrem
      · omega
    subst je
    refine wpAny_pure ?_
    rw [hr]
    exact h h2 (fun m p hp => ⟨by rw [if_neg (Nat.not_lt_zero m)]; exact it2 m p (List.getElem?_eq_some_iff.mp hp).1 hp, (hl p (List.mem_of_getElem? hp)).at fun o e => k2 _ o e⟩) sz k2
  · exact ⟨0, s.heap, rfl, Nat.zero_le _, rfl, rfl, rfl, fun _ _ e => e, fun m p h => absurd h (Nat.not_lt_zero m)⟩
theorem meets_zipN {ls : List (Addr × Array Value)} (n1 : 0 < ls.length) (n100 : ls.length ≤ 100) :
    Meets (Builtin.«zip.__new__» ⟨.type "zip" :: lrefs ls, []⟩) (fun _ R s => (∀ p ∈ ls, s.heap.IsList p.1 p.2) ∧
      ∀ h', ZAt s.heap.objs.size 0 ls h' → h'.objs.size = s.heap.objs.size + ls.length + 3 → (∀ (c : Addr) (o : Obj), s.heap.get? c = some o → h'.get? c = some o) → R (.ok (.ret (.ref (s.heap.objs.size + ls.length + 2)))) { s with heap := h' }) :=
  .of_wp fun prog w A R s h => by
    obtain ⟨hp, g, d, tk, os⟩ := s
    obtain ⟨hl, h⟩ := h
    dsimp only at hl h
    have hsub := sub_zip
    unfold Builtin.«zip.__new__» Builtin.SmallTypes.newClass
    dsimp only
    refine wpAny_bind (wpAny_bind (wpAny_of_eq (a := true) (by rfl) ?_))
    simp only [Bool.not_true, Bool.false_eq_true, if_false]
    refine wpAny_bind (wpAny_of_eq (a := true) hsub ?_)
    simp only [Bool.not_true, Bool.false_eq_true, if_false]
    refine wpAny_pure ?_
    simp only [List.length_nil, show ¬ (0 > 1) from by decide, if_false]
    refine wpAny_bind (wpAny_iterAll (s := ⟨hp, g, d, tk, os⟩) hl fun h1 S1 sz1 k1 => ?_)
    dsimp only at S1 sz1 k1 ⊢
    have rl := refsAt_len ls.length hp.objs.size
    have small : ls.length ≤ sizeLine := Nat.le_trans n100 (by decide)
    refine wpAny_bind (wpAny_newTuple (hsz := by show (refsAt hp.objs.size ls.length).length ≤ sizeLine; rw [rl]; exact small) ?_)
    dsimp only
    refine wpAny_bind (wpAny_newTuple (hsz := by rw [List.length_map]; show (refsAt hp.objs.size ls.length).length ≤ sizeLine; rw [rl]; exact small) ?_)
    dsimp only
    refine wpAny_bind ?_
    unfold Builtin.SmallTypes.newRecord
    dsimp only
    refine wpAny_newObj_type ?_ (by show (5 : Nat) ≤ sizeLine + 2; decide)
    refine wpAny_pure ⟨_, rfl, ?_⟩
    dsimp only
    have e1 : h1.objs.size = hp.objs.size + ls.length := sz1
    obtain ⟨t1, ht1⟩ : ∃ t1, t1 = h1.push { cls := .type "tuple", data := .seq (refsAt hp.objs.size ls.length).toArray } := ⟨_, rfl⟩
    have s1 : t1.objs.size = hp.objs.size + ls.length + 1 := by rw [ht1, Heap.size_push, e1]
    have g1 : t1.get? (hp.objs.size + ls.length) = some { cls := .type "tuple", data := .seq (refsAt hp.objs.size ls.length).toArray } := by rw [ht1, ← e1]; exact Heap.get?_push_size _ rfl
    have u1 : ∀ (c : Addr) (o : Obj), h1.get? c = some o → t1.get? c = some o := fun c o e => by rw [ht1]; exact Heap.get?_push_of_some _ e
    rw [← ht1]
    obtain ⟨t2, ht2⟩ : ∃ t2, t2 = t1.push { cls := .type "tuple", data := .seq ((refsAt hp.objs.size ls.length).map (fun _ => Value.none)).toArray } := ⟨_, rfl⟩
    have s2 : t2.objs.size = hp.objs.size + ls.length + 2 := by rw [ht2, Heap.size_push, s1]
    have g2 : t2.get? (hp.objs.size + ls.length + 1) = some { cls := .type "tuple", data := .seq ((refsAt hp.objs.size ls.length).map (fun _ => Value.none)).toArray } := by rw [ht2, ← s1]; exact Heap.get?_push_size _ rfl
    have u2 : ∀ (c : Addr) (o : Obj), t1.get? c = some o → t2.get? c = some o := fun c o e => by rw [ht2]; exact Heap.get?_push_of_some _ e
    rw [← ht2]
    rw [e1, s1, s2]
    have g3 := Heap.get?_push_size t2 (o := { cls := Value.type "zip", data := Data.fields (Builtin.SmallTypes.ownedTupleFields ++ [Value.bool false, Value.ref (hp.objs.size + ls.length), Value.ref (hp.objs.size + ls.length + 1)]).toArray }) rfl
    rw [s2] at g3
    refine h _ ⟨⟨.none, false, .inl rfl, g3⟩, Heap.get?_push_of_some _ (u2 _ _ g1), ⟨_, Heap.get?_push_of_some _ g2, by rw [List.length_map, rl]⟩, (S1.keep u1 |>.keep u2).keep fun c o e => Heap.get?_push_of_some _ e⟩ ?_ (fun c o e => Heap.get?_push_of_some _ (u2 _ _ (u1 _ _ (k1 c o e))))
    rw [Heap.size_push, s2]
end
end PySem

/-! for x in zip(*xs): xs a list or a tuple of one to six lists of one length -/
namespace PySem
open PySem.W PyProof.Rows
section
variable {prog : Program} {w : World} {A : Around} {E : Value → Shared → Prop} {s : Shared}
theorem callWith_typeS {pos : Pos} {T : String} {args : List (Bool × Sem Value)} {Q : Value → Shared → Prop} (hst : args.any (·.1) = true)
    (h : wpAny (model prog w) A (evalArgs (.type T) true args []) (fun a s₁ => wpAny (model prog w) A (call (.type T) a.pos a.kw) Q E s₁) E s) :
    wpAny (model prog w) A (callWith pos (.type T) [] args []) Q E s := by
  unfold callWith
  refine wpAny_bind (wpAny_holding (wpAny_mono h (fun a s₁ h₁ => wpAny_bind (wpAny_standAt ?_)) fun _ _ x => x))
  simp only [hst, Bool.true_or]
  refine wpAny_bind (wpAny_pure ?_)
  exact wpAny_bind (wpAny_mono (wpAny_operateT h₁) (fun r s₂ hr => wpAny_bind (wpAny_holding (wpAny_point (wpAny_pure hr)))) fun _ _ x => x)
theorem call_zipN {ls : List (Addr × Array Value)} {Q : Value → Shared → Prop} (n1 : 0 < ls.length) (n6 : ls.length ≤ 6) (hl : ∀ p ∈ ls, s.heap.IsList p.1 p.2)
    (h : ∀ h', ZAt s.heap.objs.size 0 ls h' → h'.objs.size = s.heap.objs.size + ls.length + 3 → (∀ (c : Addr) (o : Obj), s.heap.get? c = some o → h'.get? c = some o) → Q (.ref (s.heap.objs.size + ls.length + 2)) { s with heap := h' }) :
    wpAny (model prog w) A (call (.type "zip") (lrefs ls)) Q E s := by
  have fin : ∀ h', ZAt s.heap.objs.size 0 ls h' → h'.objs.size = s.heap.objs.size + ls.length + 3 → (∀ (c : Addr) (o : Obj), s.heap.get? c = some o → h'.get? c = some o) → Shared.TypeIs { s with heap := h' } (.ref (s.heap.objs.size + ls.length + 2)) "zip" ∧ Q (.ref (s.heap.objs.size + ls.length + 2)) { s with heap := h' } := fun h' Z e k =>
    ⟨let ⟨_, _, _, q⟩ := Z.z; ⟨_, q, rfl⟩, h h' Z e k⟩
  match ls, n1, n6, hl, fin with
  | [a], n1, n6, hl, fin => exact callType_new F.called_zip (by decide) (F.typeCall_zip_1 _) (F.newCall_zip_1 _) (fun obj => F.args_object_init_2 obj _) F.entry_zip_new (meets_zipN (ls := [a]) n1 (Nat.le_trans n6 (by decide))) ⟨hl, fin⟩
  | [a, b], n1, n6, hl, fin => exact callType_new F.called_zip (by decide) (F.typeCall_zip_2 _ _) (F.newCall_zip_2 _ _) (fun obj => F.args_object_init_3 obj _ _) F.entry_zip_new (meets_zipN (ls := [a, b]) n1 (Nat.le_trans n6 (by decide))) ⟨hl, fin⟩
  | [a, b, c], n1, n6, hl, fin => exact callType_new F.called_zip (by decide) (F.typeCall_zip_3 _ _ _) (F.newCall_zip_3 _ _ _) (fun obj => F.args_object_init_4 obj _ _ _) F.entry_zip_new (meets_zipN (ls := [a, b, c]) n1 (Nat.le_trans n6 (by decide))) ⟨hl, fin⟩
  | [a, b, c, d], n1, n6, hl, fin => exact callType_new F.called_zip (by decide) (F.typeCall_zip_4 _ _ _ _) (F.newCall_zip_4 _ _ _ _) (fun obj => F.args_object_init_5 obj _ _ _ _) F.entry_zip_new (meets_zipN (ls := [a, b, c, d]) n1 (Nat.le_trans n6 (by decide))) ⟨hl, fin⟩
  | [a, b, c, d, e], n1, n6, hl, fin => exact callType_new F.called_zip (by decide) (F.typeCall_zip_5 _ _ _ _ _) (F.newCall_zip_5 _ _ _ _ _) (fun obj => F.args_object_init_6 obj _ _ _ _ _) F.entry_zip_new (meets_zipN (ls := [a, b, c, d, e]) n1 (Nat.le_trans n6 (by decide))) ⟨hl, fin⟩
  | [a, b, c, d, e, f], n1, n6, hl, fin => exact callType_new F.called_zip (by decide) (F.typeCall_zip_6 _ _ _ _ _ _) (F.newCall_zip_6 _ _ _ _ _ _) (fun obj => F.args_object_init_7 obj _ _ _ _ _ _) F.entry_zip_new (meets_zipN (ls := [a, b, c, d, e, f]) n1 (Nat.le_trans n6 (by decide))) ⟨hl, fin⟩
  | a :: b :: c :: d :: e :: f :: g :: r, n1, n6, hl, fin => exact absurd n6 (by simp)
end
end PySem
namespace L2
open PySem PySem.Spec PyProof.Rows
/-- the lists of a zip as they stand -/
inductive AsL (h : Heap) : List (Addr × List V) → List (Addr × Array Value) → Prop where
  | nil : AsL h [] []
  | cons {a : Addr} {xs : List V} {its : Array Value} {ys : List (Addr × List V)} {ls : List (Addr × Array Value)} : Vals xs its.toList → h.IsList a its → AsL h ys ls → AsL h ((a, xs) :: ys) ((a, its) :: ls)
section
variable {X : Cx} {pins : List (Addr × Obj)} {σ : St} {H : Hp} {s : Shared}
theorem asL_of (I : Inv X pins σ H s) : ∀ (ys : List (Addr × List V)), (∀ p ∈ ys, SqL X.K H p.1 p.2) → ∃ ls, AsL s.heap ys ls
  | [], _ => ⟨[], .nil⟩
  | (a, xs) :: ys, h => by
    obtain ⟨ls, z⟩ := asL_of I ys fun p hp => h p (List.mem_cons_of_mem _ hp)
    obtain ⟨its, r, pl, _⟩ := I.list (h (a, xs) List.mem_cons_self)
    exact ⟨(a, its.toArray) :: ls, .cons (by simpa using r) pl.isList z⟩
end
theorem AsL.len {h : Heap} : ∀ {ys ls}, AsL h ys ls → ls.length = ys.length
  | _, _, .nil => rfl
  | _, _, .cons _ _ z => congrArg Nat.succ z.len
theorem AsL.isL {h : Heap} : ∀ {ys ls}, AsL h ys ls → ∀ p ∈ ls, h.IsList p.1 p.2
  | _, _, .nil, p, hp => absurd hp (by simp)
  | _, _, .cons _ b z, p, hp => by
    rcases List.mem_cons.mp hp with rfl | q
    · exact b
    · exact z.isL p q
theorem AsL.get {h : Heap} : ∀ {ys ls}, AsL h ys ls → ∀ (m : Nat) (p : Addr × Array Value), ls[m]? = some p → ∃ q, ys[m]? = some q ∧ p.1 = q.1 ∧ Vals q.2 p.2.toList ∧ h.IsList p.1 p.2
  | _, _, .nil, m, p, e => by simp at e
  | _, _, .cons (a := a) (xs := xs) r b z, 0, p, e => by
    cases e
    exact ⟨(a, xs), rfl, rfl, r, b⟩
  | _, _, .cons r b z, m + 1, p, e => z.get m p e
theorem AsL.size {h : Heap} {n : Nat} {ys ls} (z : AsL h ys ls) (hn : ∀ p ∈ ys, p.2.length = n) : ∀ p ∈ ls, p.2.size = n := fun p hp => by
  obtain ⟨m, hm, e⟩ := List.mem_iff_getElem.mp hp
  obtain ⟨q, h1, h2, h3, _⟩ := z.get m p (by rw [List.getElem?_eq_getElem hm, e])
  have := hn q (List.mem_of_getElem? h1)
  rw [← this, h3.length, Array.length_toList]
theorem AsL.vals {h : Heap} {n k : Nat} (hk : k < n) : ∀ {ys ls}, AsL h ys ls → (∀ p ∈ ys, p.2.length = n) → Vals (ys.map fun p => p.2.getD k .non) (valsAt ls k)
  | _, _, .nil, _ => .nil
  | _, _, .cons (a := a) (xs := xs) (its := its) r _ z, hn => by
    have e : xs.length = n := hn (a, xs) List.mem_cons_self
    have lt : k < xs.length := by omega
    obtain ⟨u, hu, ru⟩ := r.get (List.getElem?_eq_getElem lt)
    refine .cons ?_ (AsL.vals hk z fun p hp => hn p (List.mem_cons_of_mem _ hp))
    have e1 : xs.getD k .non = xs[k] := by rw [List.getD_eq_getElem?_getD, List.getElem?_eq_getElem lt]; rfl
    have e2 : its.getD k .none = u := by
      rw [Array.getElem?_toList] at hu
      rw [Array.getD_eq_getD_getElem?, hu]
      rfl
    show RelV (xs.getD k .non) (its.getD k .none)
    rw [e1, e2]
    exact ru
/-- the state of a zip's walk, without the lists -/
structure ZIt (b : Nat) (ys : List (Addr × List V)) (k : Nat) (h : Heap) : Prop where
  z : ∃ f0 f, (f0 = .none ∨ ∃ T : Nat, f0 = rawInt T) ∧ ZOf h (b + ys.length + 2) (b + ys.length) (b + ys.length + 1) f0 f
  ti : TupL h (b + ys.length) (refsAt b ys.length)
  to_ : ∃ old, TupL h (b + ys.length + 1) old ∧ old.length = ys.length
  it : ∀ (m : Nat) (p : Addr × List V), ys[m]? = some p → h.IsListIter (b + m) p.1 k
theorem ZIt.at {b k : Nat} {ys : List (Addr × List V)} {ls : List (Addr × Array Value)} {h : Heap} (Z : ZIt b ys k h) (a : AsL h ys ls) : ZAt b k ls h := by
  obtain ⟨z, ti, to_, it⟩ := Z
  refine ⟨by rw [a.len]; exact z, by rw [a.len]; exact ti, by rw [a.len]; exact to_, fun m p e => ?_⟩
  obtain ⟨q, h1, h2, h3, h4⟩ := a.get m p e
  rw [if_neg (Nat.not_lt_zero m), h2]
  exact ⟨it m q h1, h2 ▸ h4⟩
theorem ZIt.of {b k : Nat} {ys : List (Addr × List V)} {ls : List (Addr × Array Value)} {h h0 : Heap} (Z : ZAt b k ls h) (a : AsL h0 ys ls) : ZIt b ys k h := by
  obtain ⟨z, ti, to_, sd⟩ := Z
  rw [a.len] at z ti to_
  refine ⟨z, ti, to_, fun m q e => ?_⟩
  have ml : m < ls.length := by rw [a.len]; exact (List.getElem?_eq_some_iff.mp e).1
  obtain ⟨q', h1, h2, h3, h4⟩ := a.get m _ (List.getElem?_eq_getElem ml)
  rw [e] at h1
  cases h1
  have z := (sd m _ (List.getElem?_eq_getElem ml)).1
  rw [if_neg (Nat.not_lt_zero m), h2] at z
  exact z
/-- the walk's new objects -/
def fpZ (b : Nat) (n : Nat) : List Addr := List.range' b (n + 3)
theorem mem_fpZ {b n c : Nat} : c ∈ fpZ b n ↔ b ≤ c ∧ c < b + n + 3 := by
  unfold fpZ
  rw [List.mem_range'_1]
  omega
theorem fz_split {b n c : Nat} (h1 : b ≤ c) (q : c < b + n) : ∃ m, m < n ∧ c = b + m := ⟨c - b, by omega, by omega⟩
theorem fz_three {b n c : Nat} (h1 : b + n ≤ c) (h2 : c < b + n + 3) : c = b + n ∨ c = b + n + 1 ∨ c = b + n + 2 := by omega
theorem fz_out {b n n' c : Nat} (e : n' = n) (nb : ¬ (b ≤ c ∧ c < b + n + 3)) : c < b ∨ b + n' + 3 ≤ c := by omega
theorem fz_lt {b n n' c z : Nat} (e : n' = n) (h : c < b + n + 3) (h2 : b + n' + 3 ≤ z) : c < z := by omega
def ItzN (n : Nat) (K : PySem.W.Frag) (ys : List (Addr × List V)) : It :=
  ⟨fun i H => i < n ∧ ∀ p ∈ ys, SqL K H p.1 p.2, fun i H v H' => ∃ T, v = .ref T ∧ H T = none ∧ H' = upd H T (.tup (ys.map fun p => p.2.getD i .non)), fun i H => i = n ∧ ∀ p ∈ ys, SqL K H p.1 p.2⟩
theorem turn_zipN {P : Program} {w : World} {K : PySem.W.Frag} {x : Str} {tpos : Pos} {b n : Nat} {ys : List (Addr × List V)} (lo : ∀ p ∈ ys, (p.1 : Nat) < b) (n1 : 0 < ys.length) (n6 : ys.length ≤ 6) (hn : ∀ p ∈ ys, p.2.length = n) :
    Turn P w K (.Name x tpos) (ItzN n K ys) (fpZ b ys.length) (b + ys.length + 2) (fun i h => ZIt b ys i h) where
  mem := mem_fpZ.mpr ⟨by omega, by omega⟩
  obj := fun i h Z c hc => by
    obtain ⟨h1, h2⟩ := mem_fpZ.mp hc
    obtain ⟨⟨f0, f, _, z⟩, ti, ⟨old, to_, _⟩, it⟩ := Z
    rcases Nat.lt_or_ge c (b + ys.length) with q | q
    · obtain ⟨m, ml, rfl⟩ := fz_split h1 q
      obtain ⟨o, e, _, d⟩ := it m _ (List.getElem?_eq_getElem ml)
      exact ⟨o, e, fun v q => by rw [d] at q; cases q⟩
    · rcases fz_three q h2 with rfl | rfl | rfl
      · exact ⟨_, ti, fun _ q => nomatch q⟩
      · exact ⟨_, to_, fun _ q => nomatch q⟩
      · exact ⟨_, z, fun _ q => nomatch q⟩
  keep := fun i h h' Z k => by
    obtain ⟨⟨f0, f, e0, z⟩, ti, ⟨old, to_, ol⟩, it⟩ := Z
    refine ⟨⟨f0, f, e0, k _ (mem_fpZ.mpr ⟨by omega, by omega⟩) _ z⟩, k _ (mem_fpZ.mpr ⟨by omega, by omega⟩) _ ti, ⟨old, k _ (mem_fpZ.mpr ⟨by omega, by omega⟩) _ to_, ol⟩, fun m p e => ?_⟩
    have ml := (List.getElem?_eq_some_iff.mp e).1
    exact (it m p e).at fun o q => k _ (mem_fpZ.mpr ⟨by omega, by omega⟩) o q
  item := by
    intro X hP hw hK hc i pins s σ H E I hf Z ⟨l1, g1⟩
    subst hP hw hK
    obtain ⟨ls, a⟩ := asL_of I ys g1
    have hz := Z.at a
    have ll := a.len
    have L : Low b ls := ⟨fun p hp => by
      obtain ⟨m, hm, e⟩ := List.mem_iff_getElem.mp hp
      obtain ⟨q, h1, h2, _⟩ := a.get m p (by rw [List.getElem?_eq_getElem hm, e])
      rw [h2]
      exact lo q (List.mem_of_getElem? h1)⟩
    have rl := pyNext_zipN_item (prog := X.prog) (w := X.w) (A := X.A) (E := E) (s := s) (k := i) L (by omega) (by omega) hz (fun p hp => by rw [a.size hn p hp]; exact l1) (Q := fun r s1 => ∃ u, r = some u ∧
      wpAny (model X.prog X.w) X.A (letOwnedTupleGo (.Name x tpos) (.ref (b + ys.length + 2)) u) (fun _ s2 => ∃ x H', Inv X pins σ H' s2 ∧ RelV x u ∧ (ItzN n X.K ys).yld i H x H' ∧ ZIt b ys (i + 1) s2.heap ∧ ∀ b' ∈ fpZ b ys.length, H' b' = none) E s1) fun h' tk Z' tup sz kp => ?_
    · rw [ll] at rl
      exact rl
    · refine ⟨_, rfl, ?_⟩
      have new : ObjOk X.prog X.w (upd H s.heap.objs.size (.tup (ys.map fun p => p.2.getD i .non))) h' s.heap.objs.size (.tup (ys.map fun p => p.2.getD i .non)) :=
        ⟨by rw [List.length_map]; exact Nat.le_trans n6 (by decide), _, a.vals l1 hn, ⟨_, tup, rfl, _, rfl⟩⟩
      have J : Inv X pins σ (upd H s.heap.objs.size (.tup (ys.map fun p => p.2.getD i .non))) { s with heap := h', toks := tk } :=
        I.turnedNew (t' := tk) (ch := fpZ b ys.length) (fun c o nb q => kp c o (fz_out ll (fun z => nb (mem_fpZ.mpr z))) q) hf (Nat.le_refl _) new
      refine wpAny_pure ⟨.ref s.heap.objs.size, _, J, rfl, ⟨_, rfl, I.hok.fresh (Nat.le_refl _), rfl⟩, ZIt.of Z' a, fun c hcm => ?_⟩
      have lt : c < s.heap.objs.size := fz_lt ll (mem_fpZ.mp hcm).2 hz.lt
      rw [upd_ne (Nat.ne_of_lt lt)]
      exact (hf c hcm).1
  done := by
    intro X hP hw hK hc i pins s σ H E I hf Z ⟨l1, g1⟩
    subst hP hw hK
    obtain ⟨ls, a⟩ := asL_of I ys g1
    have hz := Z.at a
    have ll := a.len
    have L : Low b ls := ⟨fun p hp => by
      obtain ⟨m, hm, e⟩ := List.mem_iff_getElem.mp hp
      obtain ⟨q, h1, h2, _⟩ := a.get m p (by rw [List.getElem?_eq_getElem hm, e])
      rw [h2]
      exact lo q (List.mem_of_getElem? h1)⟩
    have rl := pyNext_zipN_end (prog := X.prog) (w := X.w) (A := X.A) (E := E) (s := s) (k := i) (I.ok.hd hc) L (by omega) hz (fun p hp => by rw [a.size hn p (List.mem_of_getElem? hp)]; exact l1) (Q := fun r s1 => r = none ∧ Inv X pins σ H s1) fun h' tk kp =>
      ⟨rfl, I.turnedL (t' := tk) (ch := fpZ b ys.length) (fun c o nb q => kp c o (fz_out ll (fun z => nb (mem_fpZ.mpr z))) q) hf⟩
    rw [ll] at rl
    exact rl
  self := fun A i s Q E Z h => by
    obtain ⟨f0, f, _, z⟩ := Z.z
    have hT : s.TypeIs (.ref (b + ys.length + 2)) "zip" := ⟨_, z, rfl⟩
    refine wpAny_pyIter_slot hT F.slot_zip_iter (wpAny_call_entry F.slot_zip_iter hT F.entry_zip_iter ?_ (F.args_zip_iter_1 _))
    show wpAny _ _ (ret (.ref (b + ys.length + 2))) _ _ s
    exact wpAny_pure ⟨_, rfl, "zip", _, hT, F.slot_zip_next.lookup, h⟩
end L2

/-! for x in zip(*xs) -/
namespace L2
open PySem PySem.Spec PyProof.Rows
theorem lrefs_of {h : Heap} : ∀ {ys : List (Addr × List V)} {ls : List (Addr × Array Value)} {us : List Value}, AsL h ys ls → Vals (ys.map fun p => V.ref p.1) us → us = lrefs ls
  | _, _, _, .nil, .nil => rfl
  | _, _, _, .cons _ _ z, .cons e r => by
    rw [lrefs_of z r]
    exact congrArg (· :: _) e
def iZipS (K : PySem.W.Frag) (te : TE) : TI := fun σ H R => te σ H fun y H1 => ∃ (a : Addr) (n : Nat) (ys : List (Addr × List V)), y = .ref a ∧ (SqT K H1 a (ys.map fun p => V.ref p.1) ∨ SqL K H1 a (ys.map fun p => V.ref p.1)) ∧ 0 < ys.length ∧ ys.length ≤ 6 ∧ (∀ p ∈ ys, p.2.length = n) ∧
  (∀ p ∈ ys, SqL K H1 p.1 p.2) ∧ R (ItzN n K ys) H1
theorem pi_zipS {X : Cx} {e : Expr} {te : TE} {x : Str} {p sp pos tpos : Pos} (hg : Gl X "zip") (hm : X.mg "zip" = none) (he : PE X e te) (hs : starEach [.Starred e sp] X.env = [(true, eval e X.env)] := by rfl) :
    PI X (.Name x tpos) (.Call (.Name "zip" p) [.Starred e sp] [] pos) (iZipS X.K te) := by
  refine ⟨fun pins s σ H R I h => Call_ (ld_blt I hg hm PyProof.Rows.boot_zip ?_)⟩
  rw [hs]
  refine callWith_typeS rfl (PySem.W.ks_lone (thn (he.run pins s σ H _ I h) fun v s1 ⟨y, H1, I1, ry, a, n, ys, ey, hx, n1, n6, hn, hl, q⟩ => ?_))
  subst ey
  obtain rfl : v = Value.ref a := ry
  refine StX.star_any I1 hx fun us s2 I2 rv => ?_
  obtain ⟨ls, al⟩ := asL_of I2 ys hl
  have ll := al.len
  rw [lrefs_of al rv]
  refine call_zipN (by omega) (by omega) al.isL fun h' Z sz kp => ?_
  obtain ⟨f0, f, _, hz⟩ := Z.z
  have hT : Shared.TypeIs { s2 with heap := h' } (.ref (s2.heap.objs.size + ls.length + 2)) "zip" := ⟨_, hz, rfl⟩
  refine wpAny_pyIter_slot hT F.slot_zip_iter (wpAny_call_entry F.slot_zip_iter hT F.entry_zip_iter ?_ (F.args_zip_iter_1 _))
  show wpAny _ _ (ret (.ref (s2.heap.objs.size + ls.length + 2))) _ _ _
  refine wpAny_pure ⟨_, rfl, "zip", _, hT, F.slot_zip_next.lookup, ?_⟩
  have I3 : Inv X pins σ H1 { s2 with heap := h' } := I2.kept (t' := s2.toks) kp
  have lo : ∀ p ∈ ys, (p.1 : Nat) < s2.heap.objs.size := fun p hp => by
    obtain ⟨its, _, pl, _⟩ := I2.list (hl p hp)
    obtain ⟨o, ho, _⟩ := pl.isList
    exact Heap.lt_size ho
  refine ⟨_, fpZ s2.heap.objs.size ys.length, _, _, H1, by rw [ll], I3, turn_zipN lo n1 n6 hn, ZIt.of Z al, fun c hc => ?_, q⟩
  have le : s2.heap.objs.size ≤ c := (mem_fpZ.mp hc).1
  exact I2.fpOk le (I2.hok.fresh le)
end L2

/-! {t: v} with a tuple for its key; tuple * 1 -/
namespace L2
open PySem PySem.Spec PyProof.Rows
/-- {k: v}, k a tuple of numbers and texts -/
def tDispT (tk tv : TE) : TE := fun σ H Q => ∀ p, H p = none → tk σ (upd H p (.dT [])) fun x H1 => tv σ H1 fun y H2 => H2 p = some (.dT []) ∧ ∃ (b : Addr) (k : List Key), x = .ref b ∧ H2 b = some (.tup (k.map kV)) ∧ Q (.ref p) (upd H2 p (.dT [(k, y)]))
theorem pe_dispT {X : Cx} {pos : Pos} {ke ve : Expr} {tk tv : TE} (hu : X.A.units < cLine) (hk : PE X ke tk) (hv : PE X ve tv) : PE X (.Dict [some ke] [ve] pos) (tDispT tk tv) := by
  refine ⟨fun pins s σ H Q I q => ?_⟩
  have hn := I.hok.fresh (Nat.le_refl s.heap.objs.size)
  have I1 := I.laid (a := s.heap.objs.size) (o := .dT []) (h' := s.heap.push { cls := .type "dict", data := .dict #[] }) (t' := s.toks) (fun _ _ q => Heap.get?_push_of_some _ q) (Nat.le_refl _) (dt_empty s.heap I.big)
  rw [arm_eval_Dict, zip_pairTrees [some ke] [ve] X.env pos rfl rfl, dictDisplay_pairs _ (by rw [pairTrees]; exact List.cons_ne_nil _ _) (by rw [pairTrees_length _ _ _ _ rfl rfl]; show 1 < 17; decide)]
  refine wpAny_bind (wpAny_standAt (wpAny_bind (wpAny_subDictH (knd := tupleKind (mixKind X.prog X.w)) (Q := fun d s' => wpAny (model X.prog X.w) X.A (pure (Value.ref d)) _ _ s') hu (by rw [pairTrees_length _ _ _ _ rfl rfl]; show 1 ≤ 15; decide) ?_)))
  refine pairTrees_cons_walk (thn (hk.run pins _ σ _ _ I1 (q _ hn)) fun u s1 ⟨x, H1, I2, rx, q1⟩ => thn (hv.run pins s1 σ H1 _ I2 q1) fun w2 s2 ⟨y, H2, I3, ry, e, b, k, ex, eb, q2⟩ => pairTrees_nil_walk ?_)
  subst ex
  obtain rfl : u = Value.ref b := rx
  obtain ⟨z, hd, xs, rel, dd⟩ := dt_of I3.hok e
  cases rel
  refine ⟨[(k, b, w2)], ⟨rfl, rfl, key_of I3.hok eb, True.intro⟩, dd, fun h' tk' dd' hs => wpAny_pure ⟨.ref s.heap.objs.size, _, ?_, rfl, q2⟩⟩
  obtain ⟨q0, es, ep, hq, h2, h3, h4, _, h5⟩ := dd'
  have ne : b ≠ s.heap.objs.size := fun z => by
    rw [z, e] at eb
    cases eb
  refine d_write I3 (by rw [e]; exact True.intro) hs ⟨q0, hq⟩ ⟨by show 1 ≤ sizeLine; decide, hd, [(k, b, w2)], .cons ⟨rfl, by rw [upd_ne ne]; exact eb, ry⟩ .nil, q0, es, ep, hq, h2, h3, h4, h5⟩
/-- d[k] = v by a comprehension, k a tuple -/
theorem d_dictSetT {X : Cx} {pins : List (Addr × Obj)} {σ : St} {H : Hp} {s : Shared} {E : Value → Shared → Prop} {D b : Addr} {kvs : List (List Key × V)} {k : List Key} {v : V} {r : Value} {Q : Unit → Shared → Prop} (hu : X.A.units < cLine) (I : Inv X pins σ H s) (hD : H D = some (.dT kvs)) (hz : kvs.length < sizeLine)
    (eb : H b = some (.tup (k.map kV))) (rv : RelV v r) (h : ∀ s', Inv X pins σ (upd H D (.dT (putK kvs k v))) s' → Q () s') : wpAny (model X.prog X.w) X.A (dictSet D (.ref b) r) Q E s := by
  obtain ⟨z, hd, xs, rel, dd⟩ := dt_of I.hok hD
  have hzx : xs.length ≤ sizeLine := by rw [← Paired.length rel]; exact z
  have hl : (putK kvs k v).length ≤ sizeLine := by have := length_putK kvs k v; omega
  refine wpAny_dictSet_heap (hsz := hzx) (knd := tupleKind (mixKind X.prog X.w)) hu (key_of I.hok eb) dd fun h' dd' hs => h _ ?_
  obtain ⟨q, es, ep, hq, h2, h3, h4, _, h5⟩ := dd'
  refine d_write I (by rw [hD]; exact True.intro) hs ⟨q, hq⟩ ⟨hl, hd, _, (rel.put k eb rv).keeps fun c ys ec => ?_, q, es, ep, hq, h2, h3, h4, h5⟩
  rw [upd_ne (ne_of ec hD (fun z => nomatch z))]
  exact ec
/-! tuple * 1: the tuple itself -/
theorem tuple_mulW1 (l : Addr) (items : Array Value) (n : Nat) (dd : Option Addr) (sl : Array (Option Value)) (u : Tok) :
    Meets (Builtin.«tuple.__mul__» ⟨[.ref l, .int 1 u], []⟩) (fun _ R s => s.heap.get? l = some { cls := .type "tuple", dict := dd, data := .seq items n, slots := sl } ∧ R (.ok (.ret (Value.ref l))) s) :=
  .of_wp fun prog w A R s h => by
    obtain ⟨hp, g, d, tk, os⟩ := s
    obtain ⟨hl, h⟩ := h
    have f1 := AutoSeq1.idx_int
    wp_walk using wpAny_loadPart' hl
    exact ⟨_, rfl, h⟩
/-- t * k, k at least 1 -/
def rRepTA (K : PySem.W.Frag) : R2 := fun x y H Q => ∃ l k xs, x = .ref l ∧ y = .int k ∧ SqT K H l xs ∧ xs ≠ [] ∧ 1 ≤ k ∧ k ≤ 1000 ∧ xs.length ≤ 1000 ∧ (k = 1 → Q (.ref l) H) ∧ (2 ≤ k → ∀ p, H p = none → Q (.ref p) (upd H p (.tup (List.replicate k.toNat xs).flatten)))
theorem op_repTA {X : Cx} : OpR X (binaryOp .Mult) (rRepTA X.K) := by
  intro pins s σ H x y v u Q I rx ry h
  obtain ⟨l, k, xs, rfl, rfl, hT, hne, h1, h2, hz, q1, q2⟩ := h
  by_cases k1 : k = 1
  · subst k1
    cases rx
    obtain ⟨t, rfl⟩ := ry
    obtain ⟨its, r, ⟨⟨cls, dd, data, sl⟩, ho, hc, n, hd⟩, hs⟩ := I.tuple hT
    simp only at hc hd
    subst hc hd
    exact wpAny_binaryOp_repeat_ref (T := "tuple") (U := "int") (by decide) ⟨_, ho, rfl⟩ (fun s' => typeIs_int s' 1 t) noFill_tuple_mul F.fills_int_mul F.slot_int_rmul repeat_tuple F.slot_int_index.lookup
      (call_meets F.slot_int_rmul (typeIs_int s 1 t) F.entry_int_rmul (F.args_int_rmul_2 _ _) (int_rmul_tuple 1 t l its.toArray n dd sl)
        ⟨ho, rfl, ⟨_, ho, rfl⟩, call_meets F.slot_tuple_mul ⟨_, ho, rfl⟩ F.entry_tuple_mul (F.args_tuple_mul_2 _ _) (tuple_mulW1 l its.toArray n dd sl t) ⟨ho, ⟨.ref l, _, I, rfl, q1 rfl⟩⟩⟩)
  · exact op_repT pins s σ H _ _ v u Q I rx ry ⟨l, k, xs, rfl, rfl, hT, hne, by omega, h2, hz, q2 (by omega)⟩
end L2

/-! dict comprehensions whose stores are told by a relation -/
namespace L2
open PySem PySem.Spec PyProof.Rows
/-- a store: the dict, the key, the value, the heap ahead, the heap behind -/
abbrev PutR := Addr → V → V → Hp → Hp → Prop
def Puts (X : Cx) (put : PutR) : Prop := ∀ (pins : List (Addr × Obj)) (σ : St) (H H' : Hp) (s : Shared) (D : Addr) (y z : V) (u r : Value) (E : Value → Shared → Prop) (Q : Unit → Shared → Prop), Inv X pins σ H s → put D y z H H' → RelV y u → RelV z r → (∀ s', Inv X pins σ H' s' → Q () s') →
  wpAny (model X.prog X.w) X.A (dictSet D u r) Q E s
/-- keys that are tuples of numbers and texts -/
def putT : PutR := fun D y z H H' => ∃ (kvs : List (List Key × V)) (k : List Key) (b : Addr), y = .ref b ∧ H b = some (.tup (k.map kV)) ∧ H D = some (.dT kvs) ∧ kvs.length < sizeLine ∧ H' = upd H D (.dT (putK kvs k z))
theorem puts_T {X : Cx} (hu : X.A.units < cLine) : Puts X putT := by
  rintro pins σ H H' s D y z u r E Q I ⟨kvs, k, b, rfl, eb, eD, hz, rfl⟩ ry rz h
  obtain rfl : u = Value.ref b := ry
  exact d_dictSetT hu I eD hz eb rz h
/-- a turn of the walk, told of the dict at D -/
def dcTurn (J : It) (g : TG) (tt : TT) (tk tv : TE) (put : PutR) (vs : List Nat) (σ : St) (D : Addr) (Q : VK) (W : Nat → Nat → Hp → Prop) : Prop := ∀ i m H, W i m H →
  (J.stop i H ∧ Q (.ref D) H) ∨ (J.go i H ∧ ∃ Nx : Hp → Prop, (∀ H', Nx H' → ∃ m', m' < m ∧ W (i + 1) m' H') ∧ ∀ x H', J.yld i H x H' → g x (wipe σ vs) H' fun σ2 H2 => wipe σ2 vs = wipe σ vs ∧ tt σ2 H2 fun b H3 =>
    if b = true then tk σ2 H3 fun y H4 => tv σ2 H4 fun z H5 => ∃ H6, put D y z H5 H6 ∧ Nx H6 else Nx H3)
def tDcG (wi : TI) (g : TG) (tt : TT) (tk tv : TE) (new : HO) (put : PutR) (vs : List Nat) : TE := fun σ H Q => wi σ H fun J H1 => ∀ D, H1 D = none → ∃ W : Nat → Nat → Hp → Prop, (∃ m, W 0 m (upd H1 D new)) ∧ dcTurn J g tt tk tv put vs σ D Q W
section
variable {X Y : Cx} {kx vx tg iter : Expr} {ifs : List Expr} {g : TG} {tt : TT} {tk tv : TE} {put : PutR}
/-- the walk's objects stand untouched: Y the block's context, fp its own list -/
theorem blk_fp {fp : List Addr} {σ : St} {H : Hp} {s : Shared} (hex : Y.ex = fp) (hpn : Y.pn = []) (I : Inv Y [] σ H s) (hn : ∀ b ∈ fp, H b = none) : ∀ b ∈ fp, FpOk Y [] H b := fun b hb => by
  subst hex
  exact ⟨hn b hb, (I.ok.exf b hb).1, I.ok.exfs b hb, .inl hb, fun x c e => (I.ok.exf b hb).2 x c e, fun p hp => by rw [hpn] at hp; exact absurd hp (by simp)⟩
/-- the loop of the block -/
theorem dcg_loop {fp : List Addr} {it D : Addr} {J : It} {tn : Nat → Heap → Prop} {vs : List Nat} {σ : St} {Q : VK} {W : Nat → Nat → Hp → Prop} {R : Result → Shared → Prop} {scope : Scope} {pos : Pos} {s : Shared} {H : Hp} {m0 : Nat}
    (hc : Y.calm = true) (hex : Y.ex = fp) (hpn : Y.pn = []) (T : Turn Y.prog Y.w Y.K tg J fp it tn) (hg : PG Y tg g) (ht : PTs Y ifs tt) (hk : PE Y kx tk) (hv : PE Y vx tv) (hput : Puts Y put) (hw : dcTurn J g tt tk tv put vs σ D Q W)
    (hR : ∀ s' H', Inv Y [] (wipe σ vs) H' s' → Q (.ref D) H' → R (.ok .next) s') (hE : ∀ e s', Y.xe e s' → notedBy (model Y.prog Y.w) Y.A Y.env (fun e s' => R (.error e) s') e s')
    (I : Inv Y [] (wipe σ vs) H s) (st : tn 0 s.heap) (hn : ∀ b ∈ fp, H b = none) (w0 : W 0 m0 H) : codeAny (model Y.prog Y.w) Y.A (.compLoop (.DictComp kx vx [⟨tg, iter, ifs, 0⟩] scope pos) 0 (.ref it) (.ref D) Y.env) R s := by
  refine compLoop_anyD (fun n s' => ∃ i H', Inv Y [] (wipe σ vs) H' s' ∧ tn i s'.heap ∧ (∀ b ∈ fp, H' b = none) ∧ W i n H') ?_ m0 ⟨0, H, I, st, hn, w0⟩
  rintro n s1 ⟨i, H1, I1, st1, n1, w1⟩
  have f1 := blk_fp hex hpn I1 n1
  rcases hw i n H1 w1 with ⟨stop, q⟩ | ⟨go, Nx, less, step⟩
  · refine thnF (T.done Y rfl rfl rfl hc i [] s1 _ H1 (fun _ _ => False) I1 f1 st1 stop) fun r s2 ⟨hr, I2⟩ => ?_
    subst hr
    exact hR s2 H1 I2 q
  · refine thnF (T.item Y rfl rfl rfl hc i [] s1 _ H1 (fun _ _ => False) I1 f1 st1 go) fun r s2 ⟨u, hr, h2⟩ => ?_
    subst hr
    refine thnF h2 fun _ s3 ⟨x, H3, I3, r3, y3, st3, n3⟩ => ?_
    have P3 := I3.pinned (blk_fp hex hpn I3 n3) (T.obj _ _ st3)
    -- what the turn leaves behind
    have back : ∀ {σ' : St} {s' : Shared} {H' : Hp}, wipe σ' vs = wipe σ vs → Inv Y ([] ++ pinsAt fp s3.heap) σ' H' s' → Nx H' → ∃ m, m < n ∧ ∃ i H', Inv Y [] (wipe σ vs) H' s' ∧ tn i s'.heap ∧ (∀ b ∈ fp, H' b = none) ∧ W i m H' := by
      intro σ' s' H' ew J' nx
      obtain ⟨m', lt, w'⟩ := less H' nx
      have at_ : ∀ b ∈ fp, ∀ o, s3.heap.get? b = some o → s'.heap.get? b = some o ∧ H' b = none := fun b hb o e => by
        have z := J'.pin (b, o) (List.mem_append_right _ (List.mem_append_right _ (mem_pinsAt hb e)))
        exact ⟨z.1, z.2.1⟩
      refine ⟨m', lt, i + 1, H', ?_, T.keep _ _ _ st3 fun b hb o e => (at_ b hb o e).1, fun b hb => ?_, w'⟩
      · refine (J'.unpinned (pins := [])).weak (by rw [← ew, wipe_length]) fun j v e => ?_
        rw [← ew] at e
        exact (wipe_some e).1
      · obtain ⟨o, e, _⟩ := T.obj _ _ st3 b hb
        exact (at_ b hb o e).2
    refine wpAny_mono (hg.run _ s3 _ H3 x u _ P3 r3 (step x H3 y3)) (fun _ s4 ⟨σ4, H4, I4, ew, q4⟩ => ?_) hE
    refine wpAny_mono (ht.run _ s4 σ4 H4 _ I4 q4) (fun b s5 ⟨H5, I5, q5⟩ => ?_) hE
    cases b with
    | false =>
      rw [if_neg Bool.false_ne_true] at q5 ⊢
      exact back ew I5 q5
    | true =>
      rw [if_pos rfl] at q5 ⊢
      refine wpAny_mono (hk.run _ s5 σ4 H5 _ I5 q5) (fun kv s6 ⟨y, H6, I6, r6, q6⟩ => ?_) hE
      refine wpAny_mono (hv.run _ s6 σ4 H6 _ I6 q6) (fun vv s7 ⟨z, H7, I7, r7, H8, hp, nx⟩ => ?_) hE
      exact hput _ σ4 H7 H8 s7 D y z kv vv _ _ I7 hp r6 r7 fun s8 I8 => back ew I8 nx
end
section
variable {X : Cx} {kx vx tg iter : Expr} {ifs : List Expr} {g : TG} {tt : TT} {tk tv : TE} {put : PutR} {wi : TI} {scope : Scope} {own : List (Str × Nat)} {pos : Pos} {new : HO}
/-- {k: v for target in iter if ..} -/
theorem pe_dcG (hc : X.calm = true) (hN : X.N.Nodup) (hi : PI X tg iter wi) (ok : BlkOk X.N X.env.scope scope own) (hnew : ∀ (H : Hp) (h : Heap), sysModules < h.objs.size → ObjOk X.prog X.w H (h.push { cls := .type "dict", data := .dict #[] }) h.objs.size new)
    (hB : ∀ (s : Shared) (H : Hp) (C : Addr) (cl : List (Str × Addr)) (fp : List Addr), PG (X.blk s H scope (compEnvC scope cl C X.env) fp) tg g ∧ PTs (X.blk s H scope (compEnvC scope cl C X.env) fp) ifs tt ∧ PE (X.blk s H scope (compEnvC scope cl C X.env) fp) kx tk ∧
      PE (X.blk s H scope (compEnvC scope cl C X.env) fp) vx tv ∧ Puts (X.blk s H scope (compEnvC scope cl C X.env) fp) put) (hs : ∀ x, foldedSetIterable iter X.env x = pure x := by intro _; rfl) :
    PE X (.DictComp kx vx [⟨tg, iter, ifs, 0⟩] scope pos) (tDcG wi g tt tk tv new put (own.map (·.2))) := by
  refine ⟨fun pins s σ H Q I h => ?_⟩
  rw [arm_eval_DictComp]
  have cells : ∀ y ∈ scope.names, y.2 = .free → ∃ c, X.env.cells.lookup y.1 = some c := fun y hy e => (ok.free y hy e).elim (fun k => I.ok.has _ (.inl k)) fun k => I.ok.has _ (.inr k)
  refine wpAny_comprehension_free rfl hs (closure_ok cells) ok.kind (fun y hy e => by rw [ok.uniq y hy, e]) (thn (hi.run pins s σ H _ I h) fun xv s1 hx => thn hx fun itv s2 ⟨it, fp, tn, J, H2, e, I2, T, st2, f2, q⟩ => ?_)
  subst e
  refine wpAny_newObj_type (newEnv_comp ?_)
  have fresh := I2.hok.fresh (Nat.le_refl s2.heap.objs.size)
  obtain ⟨W, ⟨m0, w0⟩, turn⟩ := q s2.heap.objs.size fresh
  have up : ∀ (b : Addr) (o : Obj), s2.heap.get? b = some o → (s2.heap.push { cls := .type "dict", data := .dict #[] }).get? b = some o := fun b o e => Heap.get?_push_of_some _ e
  have I3 := I2.laid (a := s2.heap.objs.size) (o := new) (h' := s2.heap.push { cls := .type "dict", data := .dict #[] }) (t' := s2.toks) up (Nat.le_refl _) (hnew _ s2.heap I2.big)
  have low : ∀ b ∈ fp, (b : Nat) < s2.heap.objs.size := fun b hb => by
    obtain ⟨o, e, _⟩ := T.obj _ _ st2 b hb
    exact Heap.lt_size e
  have f3 : ∀ b ∈ fp, FpOk X pins (upd H2 s2.heap.objs.size new) b ∧ b < (s2.heap.push { cls := .type "dict", data := .dict #[] }).objs.size := fun b hb =>
    ⟨⟨by rw [upd_ne (Nat.ne_of_lt (low b hb))]; exact (f2 b hb).1, (f2 b hb).2⟩, by rw [Heap.size_push]; exact Nat.lt_succ_of_lt (low b hb)⟩
  have st3 : tn 0 (s2.heap.push { cls := .type "dict", data := .dict #[] }) := T.keep _ _ _ st2 fun b _ o e => up b o e
  have n3 : ∀ b ∈ fp, (upd H2 s2.heap.objs.size new) b = none := fun b hb => (f3 b hb).1.1
  generalize upd H2 s2.heap.objs.size new = H3 at I3 f3 w0 n3
  generalize hq3 : ({ s2 with heap := s2.heap.push { cls := .type "dict", data := .dict #[] } } : Shared) = s3
  have e3 : s3.heap = s2.heap.push { cls := .type "dict", data := .dict #[] } := by rw [← hq3]
  have e3' : ({ s2 with heap := s2.heap.push { cls := .type "dict", data := .dict #[] }, toks := s2.toks } : Shared) = s3 := hq3
  rw [e3'] at I3
  rw [← e3] at f3 st3
  have I4 := block_start I3 ok hN f3
  have hb := hB s3 H3 s3.heap.objs.size (cellsFrom (s3.heap.objs.size + 1) scope.names (cloFrom X.env.cells scope.names [])) fp
  have st4 : tn 0 (pushCells (s3.heap.push { cls := .type "dict", data := .dict #[] }) scope.names) := T.keep _ _ _ st3 fun b _ o e => pushCells_keeps _ _ _ _ (Heap.get?_push_of_some _ e)
  show codeAny _ _ (.compStart (.DictComp kx vx [⟨tg, iter, ifs, 0⟩] scope pos) 0 (.ref it) (.ref s2.heap.objs.size) (compEnvC scope (cellsFrom (s3.heap.objs.size + 1) scope.names (cloFrom X.env.cells scope.names [])) s3.heap.objs.size X.env)) _ { s3 with heap := pushCells (s3.heap.push { cls := .type "dict", data := .dict #[] }) scope.names }
  have loop := dcg_loop (Y := X.blk s3 H3 scope (compEnvC scope (cellsFrom (s3.heap.objs.size + 1) scope.names (cloFrom X.env.cells scope.names [])) s3.heap.objs.size X.env) fp) (kx := kx) (vx := vx) (tg := tg) (iter := iter) (ifs := ifs) (scope := scope) (pos := pos)
    (R := compPost (model X.prog X.w) X.A X.xe none (EP X pins σ Q) (.ref s2.heap.objs.size) s3.heap.objs.size) hc rfl rfl T hb.1 hb.2.1 hb.2.2.1 hb.2.2.2.1 hb.2.2.2.2 turn (fun s' H' J' q' => ?_) (fun _ _ z => False.elim z) I4 st4 n3 w0
  · exact codeAny_compStart_dict loop (T.self X.A 0 _ _ _ st4 loop)
  · have back : Inv X pins σ H' s' := I3.call' (ch := fp) J'.os J'.base J'.hok J'.bare fun b hb => ⟨(f3 b hb).1.2.2.2.1, (f3 b hb).1.2.1, (f3 b hb).1.2.2.2.2.1, (f3 b hb).1.2.2.2.2.2⟩
    obtain ⟨m, hm, _⟩ := J'.loc
    obtain ⟨g0, g1, _, g3, g4, g5⟩ := I3.fpOk (H' := H') (Nat.le_refl s3.heap.objs.size) J'.free
    exact ⟨m, hm, fun h'' sb => ⟨.ref s2.heap.objs.size, H', back.turned (t' := s'.toks) (fun b o hb e => (sb.2 b hb).trans e) g0 g1 g3 g4 g5, rfl, q'⟩⟩
/-- keys that are tuples of numbers and texts -/
theorem pe_dcT (hc : X.calm = true) (hN : X.N.Nodup) (hu : X.A.units < cLine) (hi : PI X tg iter wi) (ok : BlkOk X.N X.env.scope scope own)
    (hg : ∀ (s : Shared) (H : Hp) (C : Addr) (cl : List (Str × Addr)) (fp : List Addr), PG (X.blk s H scope (compEnvC scope cl C X.env) fp) tg g) (ht : ∀ (s : Shared) (H : Hp) (C : Addr) (cl : List (Str × Addr)) (fp : List Addr), PTs (X.blk s H scope (compEnvC scope cl C X.env) fp) ifs tt)
    (hk : ∀ (s : Shared) (H : Hp) (C : Addr) (cl : List (Str × Addr)) (fp : List Addr), PE (X.blk s H scope (compEnvC scope cl C X.env) fp) kx tk) (hv : ∀ (s : Shared) (H : Hp) (C : Addr) (cl : List (Str × Addr)) (fp : List Addr), PE (X.blk s H scope (compEnvC scope cl C X.env) fp) vx tv)
    (hs : ∀ x, foldedSetIterable iter X.env x = pure x := by intro _; rfl) : PE X (.DictComp kx vx [⟨tg, iter, ifs, 0⟩] scope pos) (tDcG wi g tt tk tv (.dT []) putT (own.map (·.2))) :=
  pe_dcG hc hN hi ok (fun H h hb => dt_empty h hb) (fun s H C cl fp => ⟨hg s H C cl fp, ht s H C cl fp, hk s H C cl fp, hv s H C cl fp, puts_T hu⟩) hs
end
end L2

/-! min(xs, default=None) of a list of numbers -/
namespace L2
open PySem PySem.Spec PyProof.Rows PySem PySem.W 
theorem alike_ints (ns : List Int) : AlikeAll (ns.map .int) := ⟨fun x hx y hy => by
  obtain ⟨a, _, rfl⟩ := List.mem_map.mp hx
  obtain ⟨b, _, rfl⟩ := List.mem_map.mp hy
  rfl, fun x hx => by
  obtain ⟨a, _, rfl⟩ := List.mem_map.mp hx
  exact fun z => nomatch z⟩
theorem depth_ints : ∀ ns : List Int, PyData.depthAll (ns.map .int) = 0
  | [] => rfl
  | n :: ns => by
    show max 0 (PyData.depthAll (ns.map .int)) = 0
    rw [depth_ints ns]
    rfl
def rMinD (K : PySem.W.Frag) : List V → List V → Hp → VK → Prop := fun vs zs H Q => ∃ (a : Addr) (ns : List Int), vs = [V.ref a] ∧ zs = [.non] ∧ SqL K H a (ns.map V.int) ∧ (ns = [] → Q .non H) ∧ ∀ n r, ns = n :: r → Q (.int (r.foldl min n)) H
theorem cr_minD {X : Cx} (hc : X.calm = true) (hu : X.A.units + 1 < cLine) : CallRK X (.builtin "min") [Str.ofString "default"] (rMinD X.K) := by
  intro pins s σ H vs zs us ws Q I r rz h
  obtain ⟨a, ns, rfl, rfl, hs, q0, q1⟩ := h
  obtain ⟨its, rv, hl, _⟩ := I.list hs
  obtain rfl := Vals.ref1 r
  obtain ⟨w1, rfl, e1⟩ := vals1 rz
  obtain rfl : w1 = Value.none := e1
  have hi := rv.ints
  refine min_list_default (xs := ns.map .int) (as := []) (I.ok.hd hc) hl.isList (by simpa using hi.reads s.heap) (alike_ints ns) (by rw [depth_ints]; exact hu) (fun e h' tk hk => ⟨.non, H, I.kept hk, rfl, q0 (List.map_eq_nil_iff.mp e)⟩) fun y ys i v h' tk bs e hv rd hk => ?_
  cases ns with
  | nil => cases e
  | cons n r =>
    cases e
    rw [minD_ints] at rd
    cases rd with
    | int _ t => exact ⟨.int (r.foldl min n), H, I.kept hk, ⟨_, rfl⟩, q1 n r rfl⟩
end L2

/-! zip over a list and a tuple, lists, texts mixed -/
namespace L2
open PySem PySem.Spec PyProof.Rows
theorem draws_lst {P : Program} {w : World} {A : Around} (hh : A.handled = none) {i b : Addr} (hne : b ≠ i) (ys : List V) :
    Draws P w A i [i, b] ys.length (fun k v => ∃ y, ys[k]? = some y ∧ RelV y v) (fun k h => h.IsListIter i b k ∧ ∃ its : List Value, Vals ys its ∧ h.IsList b its.toArray) where
  live := fun _ _ st => let ⟨o, ho, _⟩ := st.1; ⟨o, ho⟩
  frame := fun _ _ _ st hk => ⟨st.1.at fun o e => hk i (by simp) o e, let ⟨its, rv, p⟩ := st.2; ⟨its, rv, p.at fun o e => hk b (by simp) o e⟩⟩
  item := fun k s Q E hi ⟨s1, its, rv, p⟩ hQ => by
    have el : its.toArray.size = ys.length := by
      have := rv.length
      simp
      omega
    refine (Draws.list hh i b hne its.toArray).item k s Q E (by omega) ⟨s1, p⟩ fun x h' tk px st' sb => hQ x h' tk ?_ ⟨st'.1, its, rv, st'.2⟩ sb
    obtain ⟨u, hu, ru⟩ := rv.get (List.getElem?_eq_getElem hi)
    have eu : u = x := by
      have z : its[k]? = some x := by simpa using px
      rw [hu] at z
      exact Option.some.inj z
    subst eu
    exact ⟨_, List.getElem?_eq_getElem hi, ru⟩
  done := fun s Q E ⟨s1, its, rv, p⟩ hE => by
    have el : its.toArray.size = ys.length := by
      have := rv.length
      simp
      omega
    refine (Draws.list hh i b hne its.toArray).done s Q E ⟨?_, p⟩ hE
    rw [el]
    exact s1
theorem side_lst {P : Program} {w : World} {K : PySem.W.Frag} {i b : Addr} (hne : b ≠ i) (ys : List V) :
    Side P w K i [i, b] ys.length (fun k v => ∃ y, ys[k]? = some y ∧ RelV y v) (fun k h => h.IsListIter i b k) (fun _ h => ∃ its : List Value, Vals ys its ∧ h.IsList b its.toArray) (fun H => SqL K H b ys) (fun k y => ys[k]? = some y) where
  dr := fun A hh => draws_lst hh hne ys
  cell := fun k h ⟨o, e, _, d⟩ => ⟨o, e, fun v q => by rw [d] at q; cases q⟩
  at_ := fun k h h' st f => st.at f
  so := fun X pins σ H s k hK I hq => by
    subst hK
    obtain ⟨its, rv, p, _⟩ := I.list hq
    exact ⟨its, rv, p.isList⟩
  rel := fun X pins σ H s k x _ _ _ hx => hx
/-- what a zip may walk here: a list, a tuple, a text -/
inductive Zl (K : PySem.W.Frag) (H : Hp) : V → Nat → (Hp → Prop) → (Nat → V → Prop) → Prop where
  | lst {b : Addr} {ys : List V} (h : SqL K H b ys) : Zl K H (.ref b) ys.length (fun H => SqL K H b ys) (fun k y => ys[k]? = some y)
  | old {v : V} {n : Nat} {h : Hp → Prop} {m : Nat → V → Prop} (z : Zs K H v n h m) : Zl K H v n h m
section
variable {X : Cx} {pins : List (Addr × Obj)} {σ : St} {H : Hp} {s : Shared}
theorem zl_side {v : V} {u : Value} {n : Nat} {hold : Hp → Prop} {m : Nat → V → Prop} (Z : Zl X.K H v n hold m) (r : RelV v u) (I : Inv X pins σ H s) :
    ∃ (o : Obj) (B : Heap → Prop), Begins u o B ∧ B s.heap ∧ hold H ∧ ∀ i, s.heap.objs.size ≤ i → ∃ (fp : List Addr) (P : Nat → Value → Prop) (It So : Nat → Heap → Prop), Side X.prog X.w X.K i fp n P It So hold m ∧ i ∈ fp ∧ (∀ c, s.heap.objs.size ≤ c → c ≠ i → c ∉ fp) ∧ ∀ h' : Heap, h'.get? i = some o → It 0 h' := by
  cases Z with
  | old z => exact zs_side z r I
  | @lst b ys hq =>
    cases r
    obtain ⟨its, rv, p, _⟩ := I.list hq
    have lb : b < s.heap.objs.size := by
      obtain ⟨_, q, _⟩ := p.isList
      exact Heap.lt_size q
    refine ⟨_, _, begins_list b its.toArray, p.isList, hq, fun i hi => ⟨_, _, _, _, side_lst (Nat.ne_of_lt (Nat.lt_of_lt_of_le lb hi)) ys, List.mem_cons_self, fun c hc nc => ?_, fun h' q => ⟨_, q, rfl, rfl⟩⟩⟩
    simp only [List.mem_cons, List.not_mem_nil, or_false, not_or]
    exact ⟨nc, Nat.ne_of_gt (Nat.lt_of_lt_of_le lb hc)⟩
end
def iZipL (K : PySem.W.Frag) (ta : TA) : TI := fun σ H R => ta σ H fun vs H1 => ∃ (v1 v2 : V) (n1 n2 : Nat) (h1 h2 : Hp → Prop) (m1 m2 : Nat → V → Prop), vs = [v1, v2] ∧ Zl K H1 v1 n1 h1 m1 ∧ Zl K H1 v2 n2 h2 m2 ∧ R (ItzG n1 n2 h1 h2 m1 m2) H1
theorem pi_zipL {X : Cx} {e e2 : Expr} {ta : TA} {p pos tpos : Pos} {elts : List Expr} {kk : Nat} (hg : Gl X "zip") (hm : X.mg "zip" = none) (ha : PA X [e, e2] ta)
    (hs : starEach [e, e2] X.env = (false, eval e X.env) :: starEach [e2] X.env := by rfl) (hpl : (backTo pos (starEach [e2] X.env)).any (·.1) = false := by rfl) :
    PI X (.Tuple elts kk tpos) (.Call (.Name "zip" p) [e, e2] [] pos) (iZipL X.K ta) := by
  refine ⟨fun pins s σ H R I h => Call_ (ld_blt I hg hm PyProof.Rows.boot_zip (PyProof.Rows.callWith_type1 (thn (ha.run pos pins s σ H _ I h) fun us s1 ⟨vs, H1, I1, r1, q1⟩ => ?_) hs hpl))⟩
  obtain ⟨v1, v2, n1, n2, h1, h2, m1, m2, ex, Z1, Z2, q⟩ := q1
  subst ex
  obtain ⟨u1, u2, rfl, ra, rb⟩ := vals2 r1
  obtain ⟨o1, B1, b1, c1, k1, f1⟩ := zl_side Z1 ra I1
  obtain ⟨o2, B2, b2, c2, k2, f2⟩ := zl_side Z2 rb I1
  obtain ⟨fp1, P1, It1, S1, A1, e1, x1, t1⟩ := f1 s1.heap.objs.size (Nat.le_refl _)
  obtain ⟨fp2, P2, It2, S2, A2, e2', x2, t2⟩ := f2 (s1.heap.objs.size + 1) (Nat.le_succ _)
  have fresh : ∀ c, c ∈ [s1.heap.objs.size + 4, s1.heap.objs.size + 2, s1.heap.objs.size + 3, s1.heap.objs.size, s1.heap.objs.size + 1] → FpOk X pins H1 c := fun c hc => by
    have le : s1.heap.objs.size ≤ c := by
      simp only [List.mem_cons, List.not_mem_nil, or_false] at hc
      omega
    exact I1.fpOk le (I1.hok.fresh le)
  refine zip_begins2 b1 b2 c1 c2 fun h' hz hTI hTO g1 g2 hsz hk => wpAny_pyIter_zip hz ?_
  have I2 : Inv X pins σ H1 { s1 with heap := h' } := I1.kept (t' := s1.toks) hk
  have D : ZipSep2 (s1.heap.objs.size + 4) (s1.heap.objs.size + 2) (s1.heap.objs.size + 3) s1.heap.objs.size (s1.heap.objs.size + 1) fp1 fp2 :=
    { TIz := (neA (by omega)), TOz := (neA (by omega)), TITO := (neA (by omega)), TIi1 := (neA (by omega)), mem1 := e1, zf1 := x1 _ (by omega) ((neA (by omega))), Tf1 := x1 _ (by omega) ((neA (by omega))), TIi2 := (neA (by omega)), mem2 := e2',
      zf2 := x2 _ (by omega) ((neA (by omega))), Tf2 := x2 _ (by omega) ((neA (by omega))), sep1_2 := x2 _ (by omega) ((neA (by omega))), sep2_1 := x1 _ (by omega) ((neA (by omega))) }
  exact ⟨s1.heap.objs.size + 4, [s1.heap.objs.size + 4, s1.heap.objs.size + 2, s1.heap.objs.size + 3, s1.heap.objs.size, s1.heap.objs.size + 1], _, _, H1, rfl, I2, turn_zipG D A1 A2, ⟨hz, hTI, ⟨_, _, hTO⟩, t1 h' g1, t2 h' g2⟩, fresh, q⟩
end L2

/-! joint states in numbers: order of the search, numbers of the goals -/
namespace K03
open PySem L2 Evl OxK
/-- one letter, from a joint state -/
def stepJ (tss : List (List (List Nat))) (q : List Nat) (c : Nat) : List Nat := (tss.zip q).map fun p => (p.1.getD p.2 []).getD c 0
def goalsJ (tss : List (List (List Nat))) (L : Nat) (q : List Nat) : List (List Nat) := (List.range L).map (stepJ tss q)
def addJ (os : List (List Nat)) (g : List Nat) : List (List Nat) := if g ∈ os then os else os ++ [g]
def visJ (gs os : List (List Nat)) : List (List Nat) := gs.foldl addJ os
def bfsJ (tss : List (List (List Nat))) (L : Nat) : Nat → Nat → List (List Nat) → List (List Nat)
  | 0, _, os => os
  | m + 1, d, os => match os[d]? with
    | none => os
    | some q => bfsJ tss L m (d + 1) (visJ (goalsJ tss L q) os)
def beginJ (tss : List (List (List Nat))) : List Nat := tss.map fun _ => 0
def ordJ (tss : List (List (List Nat))) (L : Nat) : List (List Nat) := bfsJ tss L 25 0 [beginJ tss]
def ixJ (g : List Nat) : List (List Nat) → Nat
  | [] => 0
  | a :: r => if a = g then 0 else ixJ g r + 1
def rowJ (tss : List (List (List Nat))) (L : Nat) (os : List (List Nat)) (q : List Nat) : List Nat := (goalsJ tss L q).map fun g => ixJ g os
def movJ (tss : List (List (List Nat))) (L : Nat) : List (List Nat) := (ordJ tss L).map (rowJ tss L (ordJ tss L))
def keyJ (q : List Nat) : List Key := q.map fun n : Nat => .inl (n : Int)
def tupJ (q : List Nat) : List V := q.map fun n : Nat => V.int (n : Int)
theorem keyJ_kV (q : List Nat) : (keyJ q).map kV = tupJ q := by
  unfold keyJ tupJ
  rw [List.map_map]
  rfl
theorem keyJ_inj : ∀ {p q : List Nat}, keyJ p = keyJ q → p = q
  | [], [], _ => rfl
  | [], _ :: _, h => by cases h
  | _ :: _, [], h => by cases h
  | a :: p, b :: q, h => by
    have h1 := List.cons.inj (show (Sum.inl (a : Int) : Key) :: keyJ p = .inl (b : Int) :: keyJ q from h)
    have h2 : (a : Int) = b := Sum.inl.inj h1.1
    have h3 : a = b := by omega
    rw [h3, keyJ_inj h1.2]
/-- the dict of the numbers -/
def dtv : Nat → List (List Nat) → List (List Key × V)
  | _, [] => []
  | k, q :: r => (keyJ q, .int (k : Int)) :: dtv (k + 1) r
theorem dtv_len : ∀ (k : Nat) (os : List (List Nat)), (dtv k os).length = os.length
  | _, [] => rfl
  | k, _ :: r => congrArg Nat.succ (dtv_len (k + 1) r)
theorem dtv_val {g : List Nat} : ∀ {os : List (List Nat)} (k : Nat), g ∈ os → valV (dtv k os) (keyJ g) = some (.int ((k + ixJ g os : Nat) : Int))
  | [], _, h => nomatch h
  | a :: r, k, h => by
    by_cases e : a = g
    · subst e
      show valV ((keyJ a, V.int (k : Int)) :: dtv (k + 1) r) _ = _
      have z : ixJ a (a :: r) = 0 := if_pos rfl
      rw [z]
      exact valV_pos rfl
    · have ne : ¬ keyJ a = keyJ g := fun z => e (keyJ_inj z)
      show valV ((keyJ a, V.int (k : Int)) :: dtv (k + 1) r) _ = _
      have z : ixJ g (a :: r) = ixJ g r + 1 := if_neg e
      rw [valV_neg ne, dtv_val (k + 1) ((List.mem_cons.mp h).resolve_left fun q => e q.symm), z]
      have z2 : k + 1 + ixJ g r = k + (ixJ g r + 1) := by omega
      rw [z2]
theorem dtv_no {g : List Nat} : ∀ {os : List (List Nat)} (k : Nat), g ∉ os → valV (dtv k os) (keyJ g) = none
  | [], _, _ => rfl
  | a :: r, k, h => by
    have ne : ¬ keyJ a = keyJ g := fun z => h (by rw [keyJ_inj z]; exact List.mem_cons_self)
    show valV ((keyJ a, V.int (k : Int)) :: dtv (k + 1) r) _ = _
    rw [valV_neg ne]
    exact dtv_no (k + 1) fun q => h (List.mem_cons_of_mem _ q)
theorem dtv_some (g : List Nat) (os : List (List Nat)) (k : Nat) : (valV (dtv k os) (keyJ g)).isSome = decide (g ∈ os) := by
  by_cases h : g ∈ os
  · rw [dtv_val k h]
    simp [h]
  · rw [dtv_no k h]
    simp [h]
theorem dtv_app : ∀ (k : Nat) (os : List (List Nat)) (g : List Nat), dtv k (os ++ [g]) = dtv k os ++ [(keyJ g, .int ((k + os.length : Nat) : Int))]
  | k, [], g => rfl
  | k, a :: r, g => by
    show (keyJ a, V.int (k : Int)) :: dtv (k + 1) (r ++ [g]) = (keyJ a, V.int (k : Int)) :: (dtv (k + 1) r ++ _)
    rw [dtv_app (k + 1) r g]
    have z : k + 1 + r.length = k + (a :: r).length := by simp; omega
    rw [z]
theorem dtv_put {g : List Nat} {os : List (List Nat)} (h : g ∉ os) : putK (dtv 0 os) (keyJ g) (.int (os.length : Int)) = dtv 0 (os ++ [g]) := by
  have z : ((dtv 0 os).any fun kv => decide (kv.1 = keyJ g)) = false := by rw [valV_any, dtv_no 0 h]; rfl
  unfold putK
  rw [z, dtv_app]
  simp
theorem ixJ_lt {g : List Nat} : ∀ {os : List (List Nat)}, g ∈ os → ixJ g os < os.length
  | [], h => nomatch h
  | a :: r, h => by
    by_cases e : a = g
    · have z : ixJ g (a :: r) = 0 := if_pos e
      rw [z]
      exact Nat.zero_lt_succ _
    · have z : ixJ g (a :: r) = ixJ g r + 1 := if_neg e
      rw [z]
      exact Nat.succ_lt_succ (ixJ_lt ((List.mem_cons.mp h).resolve_left fun q => e q.symm))
theorem ixJ_app {g : List Nat} : ∀ {os : List (List Nat)} (x : List (List Nat)), g ∈ os → ixJ g (os ++ x) = ixJ g os
  | [], _, h => nomatch h
  | a :: r, x, h => by
    show (if a = g then 0 else ixJ g (r ++ x) + 1) = (if a = g then 0 else ixJ g r + 1)
    by_cases e : a = g
    · rw [if_pos e, if_pos e]
    · rw [if_neg e, if_neg e, ixJ_app x ((List.mem_cons.mp h).resolve_left fun q => e q.symm)]
theorem ixJ_new {g : List Nat} : ∀ {os : List (List Nat)}, g ∉ os → ixJ g (os ++ [g]) = os.length
  | [], _ => if_pos rfl
  | a :: r, h => by
    have e : ¬ a = g := fun q => h (by rw [q]; exact List.mem_cons_self)
    show (if a = g then 0 else ixJ g (r ++ [g]) + 1) = _
    rw [if_neg e, ixJ_new fun q => h (List.mem_cons_of_mem _ q)]
    rfl
theorem ixJ_get {g : List Nat} : ∀ {os : List (List Nat)}, g ∈ os → os[ixJ g os]? = some g
  | [], h => nomatch h
  | a :: r, h => by
    by_cases e : a = g
    · have z : ixJ g (a :: r) = 0 := if_pos e
      rw [z, e]
      rfl
    · have z : ixJ g (a :: r) = ixJ g r + 1 := if_neg e
      rw [z]
      exact ixJ_get ((List.mem_cons.mp h).resolve_left fun q => e q.symm)
theorem addJ_ext (os : List (List Nat)) (g : List Nat) : ∃ x, addJ os g = os ++ x := by
  unfold addJ
  by_cases h : g ∈ os
  · rw [if_pos h]
    exact ⟨[], by simp⟩
  · rw [if_neg h]
    exact ⟨[g], rfl⟩
theorem addJ_mem (os : List (List Nat)) (g : List Nat) : g ∈ addJ os g := by
  unfold addJ
  by_cases h : g ∈ os
  · rw [if_pos h]
    exact h
  · rw [if_neg h]
    simp
theorem visJ_ext : ∀ (gs os : List (List Nat)), ∃ x, visJ gs os = os ++ x
  | [], os => ⟨[], by simp [visJ]⟩
  | g :: r, os => by
    obtain ⟨x, hx⟩ := addJ_ext os g
    obtain ⟨y, hy⟩ := visJ_ext r (addJ os g)
    exact ⟨x ++ y, by show visJ r (addJ os g) = _; rw [hy, hx, List.append_assoc]⟩
theorem visJ_mem {g : List Nat} : ∀ {gs : List (List Nat)} (os : List (List Nat)), g ∈ gs → g ∈ visJ gs os
  | [], _, h => nomatch h
  | a :: r, os, h => by
    show g ∈ visJ r (addJ os a)
    rcases List.mem_cons.mp h with rfl | h
    · obtain ⟨x, hx⟩ := visJ_ext r (addJ os g)
      rw [hx]
      exact List.mem_append_left _ (addJ_mem os g)
    · exact visJ_mem _ h
theorem visJ_snoc (gs os : List (List Nat)) (g : List Nat) : visJ (gs ++ [g]) os = addJ (visJ gs os) g := by
  unfold visJ
  rw [List.foldl_append]
  rfl
/-- what is reached -/
inductive RJ (tss : List (List (List Nat))) (L : Nat) : List Nat → Prop where
  | beg : RJ tss L (beginJ tss)
  | step {q : List Nat} {c : Nat} : RJ tss L q → c < L → RJ tss L (stepJ tss q c)
structure JOk (tss : List (List (List Nat))) (L : Nat) : Prop where
  one : 1 ≤ tss.length
  six : tss.length ≤ 6
  abc : L ≤ 3
  tab : ∀ t ∈ tss, 1 ≤ t.length ∧ t.length ≤ 24
  wide : ∀ t ∈ tss, ∀ row ∈ t, row.length = L
  lt : ∀ t ∈ tss, ∀ row ∈ t, ∀ g ∈ row, g < t.length
  few : ∀ l : List (List Nat), l.Nodup → (∀ q ∈ l, RJ tss L q) → l.length ≤ 24
structure GJ (tss : List (List (List Nat))) (q : List Nat) : Prop where
  len : q.length = tss.length
  lt : ∀ (i : Nat) (t : List (List Nat)) (s : Nat), tss[i]? = some t → q[i]? = some s → s < t.length
theorem RJ.good {tss : List (List (List Nat))} {L : Nat} (J : JOk tss L) {q : List Nat} (h : RJ tss L q) : GJ tss q := by
  induction h with
  | beg => exact ⟨by simp [beginJ], fun i t s ht hs => by
      unfold beginJ at hs
      rw [List.getElem?_map, ht] at hs
      cases hs
      exact (J.tab t (List.mem_of_getElem? ht)).1⟩
  | @step q c hq hc ih =>
    refine ⟨by simp [stepJ, ih.len], fun i t s ht hs => ?_⟩
    unfold stepJ at hs
    rw [List.getElem?_map] at hs
    have iq : i < q.length := by rw [ih.len]; exact (List.getElem?_eq_some_iff.mp ht).1
    have hz : (tss.zip q)[i]? = some (t, q[i]) := by
      rw [List.getElem?_zip_eq_some]
      exact ⟨ht, List.getElem?_eq_getElem iq⟩
    rw [hz] at hs
    cases hs
    have tm := List.mem_of_getElem? ht
    have l1 := ih.lt i t _ ht (List.getElem?_eq_getElem iq)
    have e1 : t.getD q[i] [] = t[q[i]] := by rw [List.getD_eq_getElem?_getD, List.getElem?_eq_getElem l1]; rfl
    show (t.getD q[i] []).getD c 0 < t.length
    rw [e1]
    have w1 := J.wide t tm _ (List.getElem_mem l1)
    have l2 : c < (t[q[i]]).length := by omega
    have e2 : (t[q[i]]).getD c 0 = (t[q[i]])[c] := by rw [List.getD_eq_getElem?_getD, List.getElem?_eq_getElem l2]; rfl
    rw [e2]
    exact J.lt t tm _ (List.getElem_mem l1) _ (List.getElem_mem l2)
structure JB (tss : List (List (List Nat))) (L : Nat) (os : List (List Nat)) : Prop where
  nod : os.Nodup
  rj : ∀ q ∈ os, RJ tss L q
theorem JB.few {tss : List (List (List Nat))} {L : Nat} {os : List (List Nat)} (J : JOk tss L) (b : JB tss L os) : os.length ≤ 24 := J.few os b.nod b.rj
theorem JB.beg (tss : List (List (List Nat))) (L : Nat) : JB tss L [beginJ tss] := ⟨by simp, fun q h => by
  rw [List.mem_singleton.mp h]
  exact .beg⟩
theorem JB.add {tss : List (List (List Nat))} {L : Nat} {os : List (List Nat)} (b : JB tss L os) {g : List Nat} (hg : RJ tss L g) : JB tss L (addJ os g) := by
  unfold addJ
  by_cases h : g ∈ os
  · rw [if_pos h]
    exact b
  · rw [if_neg h]
    refine ⟨?_, fun q hq => ?_⟩
    · rw [List.nodup_append]
      refine ⟨b.nod, by simp, fun a ha b' hb e => ?_⟩
      rw [List.mem_singleton.mp hb] at e
      exact h (e ▸ ha)
    · rcases List.mem_append.mp hq with z | z
      · exact b.rj q z
      · rw [List.mem_singleton.mp z]
        exact hg
theorem JB.vis {tss : List (List (List Nat))} {L : Nat} : ∀ {gs os : List (List Nat)}, JB tss L os → (∀ g ∈ gs, RJ tss L g) → JB tss L (visJ gs os)
  | [], _, b, _ => b
  | g :: r, os, b, h => JB.vis (gs := r) (os := addJ os g) (b.add (h g List.mem_cons_self)) fun x hx => h x (List.mem_cons_of_mem _ hx)
theorem goals_rj {tss : List (List (List Nat))} {L : Nat} {q : List Nat} (h : RJ tss L q) : ∀ g ∈ goalsJ tss L q, RJ tss L g := fun g hg => by
  obtain ⟨c, hc, rfl⟩ := List.mem_map.mp hg
  exact .step h (List.mem_range.mp hc)
/-- the rows made so far, d of them -/
structure MI (tss : List (List (List Nat))) (L d : Nat) (os mvs : List (List Nat)) : Prop where
  len : mvs.length = d
  le : d ≤ os.length
  row : ∀ (i : Nat) (q : List Nat), i < d → os[i]? = some q → mvs[i]? = some (rowJ tss L os q) ∧ ∀ g ∈ goalsJ tss L q, g ∈ os
theorem MI.next {tss : List (List (List Nat))} {L d : Nat} {os mvs : List (List Nat)} (M : MI tss L d os mvs) {q : List Nat} (hq : os[d]? = some q) : MI tss L (d + 1) (visJ (goalsJ tss L q) os) (mvs ++ [rowJ tss L (visJ (goalsJ tss L q) os) q]) := by
  obtain ⟨x, hx⟩ := visJ_ext (goalsJ tss L q) os
  have dl := (List.getElem?_eq_some_iff.mp hq).1
  refine ⟨by simp [M.len], by rw [hx, List.length_append]; omega, fun i p hi hp => ?_⟩
  have pos : os[i]? = some p := by
    rw [hx, List.getElem?_append_left (by omega)] at hp
    exact hp
  by_cases e : i = d
  · subst e
    rw [hq] at pos
    cases pos
    refine ⟨?_, fun g hg => visJ_mem os hg⟩
    rw [List.getElem?_append_right (by rw [M.len]; exact Nat.le_refl _), M.len, Nat.sub_self]
    rfl
  · obtain ⟨h1, h2⟩ := M.row i p (by omega) pos
    refine ⟨?_, fun g hg => by rw [hx]; exact List.mem_append_left _ (h2 g hg)⟩
    rw [List.getElem?_append_left (by rw [M.len]; omega), h1]
    congr 1
    unfold rowJ
    refine List.map_congr_left fun g hg => ?_
    rw [hx, ixJ_app x (h2 g hg)]
theorem MI.done {tss : List (List (List Nat))} {L : Nat} {os mvs : List (List Nat)} (M : MI tss L os.length os mvs) : mvs = os.map (rowJ tss L os) := by
  refine List.ext_getElem? fun i => ?_
  by_cases h : i < os.length
  · rw [(M.row i _ h (List.getElem?_eq_getElem h)).1, List.getElem?_map, List.getElem?_eq_getElem h]
    rfl
  · rw [List.getElem?_eq_none (by rw [M.len]; omega), List.getElem?_eq_none (by rw [List.length_map]; omega)]
end K03

/-! a heap without some of its objects; zips within comprehensions -/
namespace K03
open PySem L2 Evl OxK
/-- a heap without some of its objects: those that change -/
def cut (H : Hp) (L : List Addr) : Hp := fun b => if b ∈ L then none else H b
theorem cut_in {H : Hp} {L : List Addr} {b : Addr} (h : b ∈ L) : cut H L b = none := if_pos h
theorem cut_no {H : Hp} {L : List Addr} {b : Addr} (h : b ∉ L) : cut H L b = H b := if_neg h
theorem cut_le (H : Hp) (L : List Addr) : Ex (cut H L) H := fun b o e => by
  by_cases h : b ∈ L
  · rw [cut_in h] at e
    cases e
  · rw [cut_no h] at e
    exact e
theorem cut_ex {H H' : Hp} {L : List Addr} (e : Ex H H') (h : ∀ d ∈ L, H d = none) : Ex H (cut H' L) := fun b o eb => by
  rw [cut_no fun z => by rw [h b z] at eb; cases eb]
  exact e b o eb
theorem cut_mono {H H' : Hp} {L : List Addr} (e : Ex H H') : Ex (cut H L) (cut H' L) := fun b o eb => by
  by_cases h : b ∈ L
  · rw [cut_in h] at eb
    cases eb
  · rw [cut_no h] at eb ⊢
    exact e b o eb
theorem cut_upd {H : Hp} {L : List Addr} {d : Addr} {v : HO} (h : d ∈ L) : cut (upd H d v) L = cut H L := funext fun b => by
  by_cases hb : b ∈ L
  · rw [cut_in hb, cut_in hb]
  · rw [cut_no hb, cut_no hb, upd_ne fun z => hb (by rw [z]; exact h)]
theorem cut_sub {H : Hp} {L L' : List Addr} (h : ∀ d ∈ L', d ∈ L) : Ex (cut H L) (cut H L') := fun b o eb => by
  by_cases hb : b ∈ L
  · rw [cut_in hb] at eb
    cases eb
  · rw [cut_no hb] at eb
    rw [cut_no fun z => hb (h b z)]
    exact eb
theorem cut_out {H : Hp} {L : List Addr} {b : Addr} {o : HO} (h : b ∉ L) (e : H b = some o) : cut H L b = some o := by
  rw [cut_no h]
  exact e
theorem ne_new {H : Hp} {p d : Addr} {o : HO} (h : H p = none) (e : H d = some o) : p ≠ d := fun z => by
  rw [z, e] at h
  cases h
/-! zip over a list and a tuple -/
section
variable {K : PySem.W.Frag} {te tl : TE} {ta : TA} {σ : L2.St} {H : Hp} {a b : Addr} {xs ys : List V} {j j2 : Nat} {vs : List Nat}
def yPr (xs ys : List V) : Nat → V → Hp → Hp → Prop := fun i v H H' => ∃ T x y, v = .ref T ∧ H T = none ∧ H' = upd H T (.tup [x, y]) ∧ xs[i]? = some x ∧ ys[i]? = some y
theorem wk_zlt {H0 : Hp} (ha : SqL K H0 a xs) (hb : SqT K H0 b ys) (e : ys.length = xs.length) : Wk (ItzG xs.length ys.length (fun H => SqL K H a xs) (fun H => SqT K H b ys) (fun k y => xs[k]? = some y) (fun k y => ys[k]? = some y)) H0 xs.length (yPr xs ys) where
  go := fun i H e1 hi => ⟨hi, by rw [e]; exact hi, ex_l e1 ha, ex_t e1 hb⟩
  stop := fun H e1 => ⟨Nat.le_refl _, by rw [e]; exact Nat.le_refl _, .inl rfl, ex_l e1 ha, ex_t e1 hb⟩
  yld := fun i H v H' _ _ h => h
theorem el_zipL (f : Nat → V) (ht : EvA ta σ H [.ref a, .ref b]) (ha : SqL K H a xs) (hb : SqT K H b ys) (e : ys.length = xs.length) (few : xs.length ≤ 100) (hw : ∀ x y, wipe (((wipe σ vs).set j (some x)).set j2 (some y)) vs = wipe σ vs)
    (it : ∀ (i : Nat) x y H1, Ex H H1 → xs[i]? = some x → ys[i]? = some y → Ev te (((wipe σ vs).set j (some x)).set j2 (some y)) H1 (f i)) : EvL (tLc (iZipL K ta) (gTup K 2 (gCons (gName j) (gCons (gName j2) gNil))) tYes te vs) σ H ((List.range xs.length).map f) := by
  intro H1 e1 Q q
  refine ht H1 e1 _ fun H2 e2 => ⟨_, _, _, _, _, _, _, _, rfl, .lst (ex_l (e1.trans e2) ha), .old (.tup (ex_t (e1.trans e2) hb)), fun D hD => ?_⟩
  have wk := wk_zlt (ex_l (e1.trans e2) ha) (ex_t (e1.trans e2) hb) e
  refine lc_any (J := ItzG xs.length ys.length (fun H => SqL K H a xs) (fun H => SqT K H b ys) (fun k y => xs[k]? = some y) (fun k y => ys[k]? = some y)) (n := xs.length) (fun i H' => Ex H2 H' ∧ H' D = some (.lst ((List.range i).map f))) ⟨Ex.new hD, upd_same⟩ (fun i H' hi p => wk.go i H' p.1 hi) (fun H' p => wk.stop H' p.1) ?_ (fun H' p => q D H' (fresh_back e2 hD) (e2.trans p.1) p.2)
  rintro i H3 v H4 hi ⟨e3, hDl⟩ ⟨T', x, y, rfl, hT, rfl, hx, hy⟩
  refine ⟨T', _, rfl, SqT.of upd_same, rfl, _, _, rfl, _, _, rfl, rfl, hw _ _, tt_yes ?_⟩
  have e4 : Ex H2 (upd H3 T' (.tup [x, y])) := e3.trans (Ex.new hT)
  refine it i x y _ ((e1.trans e2).trans e4) hx hy _ (Ex.refl _) _ fun H5 e5 => ?_
  refine ⟨_, e5 _ _ ((Ex.new hT) _ _ hDl), sz_lt (by simp; omega), Ex.mut (e4.trans e5) hD, ?_⟩
  rw [upd_same, List.range_succ]
  simp
/-! zip(*rows) -/
def yTp (ys : List (Addr × List V)) : Nat → V → Hp → Hp → Prop := fun i v H H' => ∃ T, v = .ref T ∧ H T = none ∧ H' = upd H T (.tup (ys.map fun p => p.2.getD i .non))
theorem wk_zs {zs : List (Addr × List V)} {H0 : Hp} {n : Nat} (h : ∀ p ∈ zs, SqL K H0 p.1 p.2) : Wk (ItzN n K zs) H0 n (yTp zs) where
  go := fun i H e hi => ⟨hi, fun p hp => ex_l e (h p hp)⟩
  stop := fun H e => ⟨rfl, fun p hp => ex_l e (h p hp)⟩
  yld := fun i H v H' _ _ h => h
end
theorem rep_flat : ∀ (l : List (List (List Nat))), (List.replicate l.length [V.int 0]).flatten = tupJ (beginJ l)
  | [] => rfl
  | _ :: r => by
    show V.int 0 :: (List.replicate r.length [V.int 0]).flatten = V.int 0 :: tupJ (beginJ r)
    rw [rep_flat r]
end K03

-- base: law_k09_whole_distances
/-! joint_table -/
namespace K03
open PySem L2 Evl OxK
/-- the tuples of the joint states; the lists of their goals -/
def TupsJ (H : Hp) (bs : List Addr) (os : List (List Nat)) : Prop := bs.length = os.length ∧ ∀ (i : Nat) (b : Addr) (q : List Nat), bs[i]? = some b → os[i]? = some q → H b = some (.tup (tupJ q))
def LstsJ (H : Hp) (gs : List Addr) (rows : List (List Nat)) : Prop := gs.length = rows.length ∧ ∀ (i : Nat) (b : Addr) (row : List Nat), gs[i]? = some b → rows[i]? = some row → H b = some (.lst (rowV row))
theorem TupsJ.ex {H H' : Hp} {bs : List Addr} {os : List (List Nat)} (t : TupsJ H bs os) (e : Ex H H') : TupsJ H' bs os := ⟨t.1, fun i b q h1 h2 => e _ _ (t.2 i b q h1 h2)⟩
theorem LstsJ.ex {H H' : Hp} {bs : List Addr} {os : List (List Nat)} (t : LstsJ H bs os) (e : Ex H H') : LstsJ H' bs os := ⟨t.1, fun i b q h1 h2 => e _ _ (t.2 i b q h1 h2)⟩
/-- the tables: lists of lists of lists -/
def TabJ (H : Hp) (l : Addr) (t : List (List Nat)) : Prop := ∃ rs : List Addr, H l = some (.lst (rs.map V.ref)) ∧ LstsJ H rs t
theorem TabJ.ex {H H' : Hp} {l : Addr} {t : List (List Nat)} (h : TabJ H l t) (e : Ex H H') : TabJ H' l t := let ⟨rs, h1, h2⟩ := h; ⟨rs, e _ _ h1, h2.ex e⟩
/-- while the goals of one joint state are walked: the dict tells od, the list os, the new row so far row -/
def Inn (Hs : Hp) (d o m gl : Addr) (gs : List Addr) (mvs od os : List (List Nat)) (row : List Nat) (H' : Hp) : Prop := Ex Hs H' ∧ H' d = some (.dT (dtv 0 od)) ∧ H' m = some (.lst (gs.map V.ref)) ∧ H' gl = some (.lst (rowV row)) ∧ LstsJ (cut H' [d, o, m, gl]) gs mvs ∧
  ∃ bs : List Addr, H' o = some (.lst (bs.map V.ref)) ∧ TupsJ (cut H' [d, o, m, gl]) bs os
structure Ne4 (Hs : Hp) (d o m gl : Addr) : Prop where
  od : o ≠ d
  md : m ≠ d
  mo : m ≠ o
  gd : gl ≠ d
  go : gl ≠ o
  gm : gl ≠ m
  d : Hs d = none
  o : Hs o = none
  m : Hs m = none
  g : Hs gl = none
section
variable {Hs : Hp} {d o m gl : Addr} {gs : List Addr} {mvs od os : List (List Nat)} {row : List Nat} {H' H2 : Hp}
theorem Inn.ex (h : Inn Hs d o m gl gs mvs od os row H') (e : Ex H' H2) : Inn Hs d o m gl gs mvs od os row H2 := by
  obtain ⟨h1, h2, h3, h4, h5, bs, h6, h7⟩ := h
  exact ⟨h1.trans e, e _ _ h2, e _ _ h3, e _ _ h4, h5.ex (cut_mono e), bs, e _ _ h6, h7.ex (cut_mono e)⟩
theorem Inn.putd (N : Ne4 Hs d o m gl) (h : Inn Hs d o m gl gs mvs od os row H') (od2 : List (List Nat)) : Inn Hs d o m gl gs mvs od2 os row (upd H' d (.dT (dtv 0 od2))) := by
  obtain ⟨h1, h2, h3, h4, h5, bs, h6, h7⟩ := h
  have c : cut (upd H' d (.dT (dtv 0 od2))) [d, o, m, gl] = cut H' [d, o, m, gl] := cut_upd (by simp)
  exact ⟨Ex.mut h1 N.d, upd_same, by rw [upd_ne N.md]; exact h3, by rw [upd_ne N.gd]; exact h4, by rw [c]; exact h5, bs, by rw [upd_ne N.od]; exact h6, by rw [c]; exact h7⟩
theorem TupsJ.snoc {H : Hp} {bs : List Addr} {T : Addr} {g : List Nat} (h : TupsJ H bs os) (hT : H T = some (.tup (tupJ g))) : TupsJ H (bs ++ [T]) (os ++ [g]) := ⟨by simp [h.1], fun i b q h1 h2 => by
  by_cases l : i < bs.length
  · rw [List.getElem?_append_left l] at h1
    rw [List.getElem?_append_left (by rw [← h.1]; exact l)] at h2
    exact h.2 i b q h1 h2
  · have e : i = bs.length := by
      have := (List.getElem?_eq_some_iff.mp h1).1
      simp at this
      omega
    subst e
    rw [List.getElem?_append_right (Nat.le_refl _), Nat.sub_self] at h1
    rw [List.getElem?_append_right (by rw [h.1]; exact Nat.le_refl _), h.1, Nat.sub_self] at h2
    cases h1
    cases h2
    exact hT⟩
theorem LstsJ.snoc {H : Hp} {bs : List Addr} {T : Addr} {g : List Nat} (h : LstsJ H bs os) (hT : H T = some (.lst (rowV g))) : LstsJ H (bs ++ [T]) (os ++ [g]) := ⟨by simp [h.1], fun i b q h1 h2 => by
  by_cases l : i < bs.length
  · rw [List.getElem?_append_left l] at h1
    rw [List.getElem?_append_left (by rw [← h.1]; exact l)] at h2
    exact h.2 i b q h1 h2
  · have e : i = bs.length := by
      have := (List.getElem?_eq_some_iff.mp h1).1
      simp at this
      omega
    subst e
    rw [List.getElem?_append_right (Nat.le_refl _), Nat.sub_self] at h1
    rw [List.getElem?_append_right (by rw [h.1]; exact Nat.le_refl _), h.1, Nat.sub_self] at h2
    cases h1
    cases h2
    exact hT⟩
theorem Inn.puto (N : Ne4 Hs d o m gl) (h : Inn Hs d o m gl gs mvs od os row H') {T : Addr} {g : List Nat} {xs : List V} (ho : H' o = some (.lst xs)) (hT : H' T = some (.tup (tupJ g))) : Inn Hs d o m gl gs mvs od (os ++ [g]) row (upd H' o (.lst (xs ++ [.ref T]))) := by
  obtain ⟨h1, h2, h3, h4, h5, bs, h6, h7⟩ := h
  have c : cut (upd H' o (.lst (xs ++ [.ref T]))) [d, o, m, gl] = cut H' [d, o, m, gl] := cut_upd (by simp)
  have ex : xs = bs.map V.ref := by
    rw [h6] at ho
    injection ho with z
    injection z with z
    exact z.symm
  have nT : T ∉ [d, o, m, gl] := by
    simp only [List.mem_cons, List.not_mem_nil, or_false, not_or]
    refine ⟨fun z => ?_, fun z => ?_, fun z => ?_, fun z => ?_⟩
    · rw [z, h2] at hT; cases hT
    · rw [z, h6] at hT; cases hT
    · rw [z, h3] at hT; cases hT
    · rw [z, h4] at hT; cases hT
  refine ⟨Ex.mut h1 N.o, by rw [upd_ne N.od.symm]; exact h2, by rw [upd_ne N.mo]; exact h3, by rw [upd_ne N.go]; exact h4, by rw [c]; exact h5, bs ++ [T], by rw [upd_same, ex, List.map_append]; rfl, ?_⟩
  rw [c]
  exact h7.snoc (cut_out nT hT)
theorem Inn.putg (N : Ne4 Hs d o m gl) (h : Inn Hs d o m gl gs mvs od os row H') (n : Nat) : Inn Hs d o m gl gs mvs od os (row ++ [n]) (upd H' gl (.lst (rowV row ++ [.int (n : Int)]))) := by
  obtain ⟨h1, h2, h3, h4, h5, bs, h6, h7⟩ := h
  have c : cut (upd H' gl (.lst (rowV row ++ [.int (n : Int)]))) [d, o, m, gl] = cut H' [d, o, m, gl] := cut_upd (by simp)
  exact ⟨Ex.mut h1 N.g, by rw [upd_ne N.gd.symm]; exact h2, by rw [upd_ne N.gm.symm]; exact h3, by rw [upd_same]; simp [rowV], by rw [c]; exact h5, bs, by rw [upd_ne N.go.symm]; exact h6, by rw [c]; exact h7⟩
end
theorem ev_dgT {tv ty : TE} {σ : L2.St} {H : Hp} {d T : Addr} {g : List Nat} {os : List (List Nat)} (hd : Ev tv σ H (.ref d)) (hT : Ev ty σ H (.ref T)) (h1 : H d = some (.dT (dtv 0 os))) (h2 : H T = some (.tup (tupJ g))) (h3 : g ∈ os) : Ev (tDGet tv ty) σ H (.int ((ixJ g os : Nat) : Int)) := fun H1 e1 Q q =>
  hd H1 e1 _ fun H2 e2 => hT H2 (e1.trans e2) _ fun H3 e3 => by
    have e := (e1.trans e2).trans e3
    have z := DGet.t (k := keyJ g) (e _ _ h1) (by rw [keyJ_kV]; exact e _ _ h2)
    rw [dtv_val 0 h3, Nat.zero_add] at z
    exact ⟨d, _, rfl, z, q H3 (e2.trans e3)⟩
theorem app_row {K : PySem.W.Frag} {D : Ends} {σ : L2.St} {Hs H5 : Hp} {d o m gl T : Addr} {gs : List Addr} {mvs os : List (List Nat)} {row g : List Nat} (N : Ne4 Hs d o m gl) (inn : Inn Hs d o m gl gs mvs os os row H5) (hg : g ∈ os) (hT : H5 T = some (.tup (tupJ g)))
    (h7 : σ[7]? = some (some (.ref gl))) (h3 : σ[3]? = some (some (.ref d))) (h8 : σ[8]? = some (some (.ref T))) (few : row.length ≤ 100) (k : ∀ H6, Inn Hs d o m gl gs mvs os os (row ++ [ixJ g os]) H6 → D.nx σ H6) :
    tDrop (tBM K "list" rAppend (tVar 7) (tCons (tDGet (tVar 3) (tVar 8)) tNil)) D σ H5 :=
  s_app (l := gl) (xs := rowV row) (v := .int ((ixJ g os : Nat) : Int)) inn.2.2.2.1 (ev_var h7) (ev_dgT (ev_var h3) (ev_var h8) inn.2.1 hT hg) (by simp [rowV]; omega) fun H6 e6 => k _ ((inn.ex e6).putg N _)
theorem cut_more {H : Hp} {L L' : List Addr} {p : Addr} (h : ∀ c ∈ L', c ∈ L ∨ c = p) (hp : H p = none) : Ex (cut H L) (cut H L') := fun b o e => by
  by_cases hb : b ∈ L
  · rw [cut_in hb] at e
    cases e
  · rw [cut_no hb] at e
    rw [cut_no fun z => (h b z).elim hb fun z2 => by rw [z2, hp] at e; cases e]
    exact e
theorem goals_at {tss : List (List (List Nat))} {L i : Nat} (q : List Nat) (h : i < L) : (goalsJ tss L q)[i]? = some (stepJ tss q i) := by
  unfold goalsJ
  rw [List.getElem?_map, List.getElem?_range h]
  rfl
theorem row_next {gs os x : List (List Nat)} {g : List Nat} (h : ∀ c ∈ gs, c ∈ os) : (gs ++ [g]).map (fun c => ixJ c (os ++ x)) = gs.map (fun c => ixJ c os) ++ [ixJ g (os ++ x)] := by
  rw [List.map_append]
  congr 1
  exact List.map_congr_left fun c hc => ixJ_app x (h c hc)
theorem q_beg {i : Nat} {tz : TS} {r : R2} {ta tb : TE} {D : Ends} {σ : L2.St} {H : Hp} {xs : List V} (h : EvU ta σ H xs) (k : ∀ p H2, Ex H H2 → H2 p = some (.tup xs) → tb σ H2 fun y H3 => r (.ref p) y H3 fun v H4 => tz D (σ.set i (some v)) H4) : tSeq (tAsg (tOp r ta tb) (gName i)) tz D σ H := h H (Ex.refl H) _ fun p H2 _ e2 h2 => k p H2 e2 h2
theorem rep_any {K : PySem.W.Frag} {H2 : Hp} {p : Addr} {n : Int} {tss : List (List (List Nat))} {Q : VK} (hp : H2 p = some (.tup [V.int 0])) (hn : n = (tss.length : Int)) (one : 1 ≤ tss.length) (six : tss.length ≤ 6)
    (k : ∀ b H3, Ex H2 H3 → H3 b = some (.tup (tupJ (beginJ tss))) → Q (.ref b) H3) : rRepTA K (.ref p) (.int n) H2 Q := by
  subst hn
  refine ⟨p, _, [V.int 0], rfl, rfl, SqT.of hp, by simp, by omega, by omega, by simp, fun k1 => k p H2 (Ex.refl _) ?_, fun k2 q hq => k q _ (Ex.new hq) ?_⟩
  · have z : tss.length = 1 := by omega
    rw [← rep_flat, z]
    exact hp
  · rw [upd_same, ← rep_flat]
    rfl
theorem rowV_vals (row : List Nat) (i : Nat) (h : i < row.length) : (rowV row).getD i .non = V.int ((row.getD i 0 : Nat) : Int) := by
  unfold rowV
  rw [List.getD_eq_getElem?_getD, List.getElem?_map, List.getD_eq_getElem?_getD, List.getElem?_eq_getElem h]
  rfl
def spJt (K : PySem.W.Frag) (C : Addr) : Sp := fun vs H Q _ => ∃ (a : Addr) (x : Str) (ms : List Addr) (tss : List (List (List Nat))), vs = [.ref a] ∧ JOk tss (sg x).length ∧ AlphaOk x ∧ (H a = some (.lst (ms.map V.ref)) ∨ H a = some (.tup (ms.map V.ref))) ∧ ms.length = tss.length ∧
  (∀ (i : Nat) (s : Addr) (t : List (List Nat)), ms[i]? = some s → tss[i]? = some t → IsM K C H s x t) ∧
  ∀ (H' : Hp) (o mv t : Addr) (bs gs : List Addr), Ex H H' → H' o = some (.lst (bs.map V.ref)) → TupsJ H' bs (ordJ tss (sg x).length) → H' mv = some (.lst (gs.map V.ref)) → LstsJ H' gs (movJ tss (sg x).length) → H' t = some (.tup [.ref o, .ref mv]) → Q (.ref t) H'
section
variable {P : Program} {w : World} {K : PySem.W.Frag} {mg : Str → Option Value} {base : Heap} {f : Addr} {fd : FuncData}
end
end K03

-- base: law_k09_whole_distances
/-! require_members -/
namespace K03
open PySem L2 Evl OxK
/-- machines over one alphabet, in a list or a tuple -/
def spRq (K : PySem.W.Frag) (C : Addr) : Sp := fun vs H Q _ => ∃ (a : Addr) (x : Str) (ms : List Addr), vs = [.ref a] ∧ 1 ≤ ms.length ∧ ms.length ≤ 6 ∧ (H a = some (.lst (ms.map V.ref)) ∨ H a = some (.tup (ms.map V.ref))) ∧ (∀ (i : Nat) (s : Addr), ms[i]? = some s → ∃ t, IsM K C H s x t) ∧ ∀ H', Ex H H' → Q .non H'
theorem ev_alph {K : PySem.W.Frag} {C : Addr} {te : TE} {σ : L2.St} {H : Hp} {s : Addr} {x : Str} {rows : List (List Nat)} (hv : Ev te σ H (.ref s)) (im : IsM K C H s x rows) : Ev (tProp C (spMal K C) [] E0 te) σ H (.str x) := fun H1 e1 Q q => hv H1 e1 _ fun H2 e2 => by
  have im2 := sqt_ex im (e1.trans e2)
  obtain ⟨dx, r, d, hs, r1⟩ := id im2
  exact ⟨s, dx, _, rfl, hs, s, x, rows, rfl, im2, fun H3 e3 => q H3 (e2.trans e3)⟩
/-- s[i] of a list or a tuple -/
theorem ev_or_at {K : PySem.W.Frag} {te tb : TE} {σ : L2.St} {H : Hp} {a : Addr} {xs : List V} {i : Nat} {y : V} (h : Ev te σ H (.ref a)) (hb : Ev tb σ H (.int (i : Int))) (hs : H a = some (.lst xs) ∨ H a = some (.tup xs)) (hy : xs[i]? = some y) : Ev (tOrE (tOp (rIxL K) te tb) (tOp (rIxT K) te tb)) σ H y := fun H1 e1 Q q => by
  rcases hs with hs | hs
  · exact .inl (ev_op h hb (rv_ixL (SqL.of hs) (atI_nat hy)) H1 e1 Q q)
  · exact .inr (ev_op h hb (rv_ixT (SqT.of hs) (atI_nat hy)) H1 e1 Q q)
section
variable {P : Program} {w : World} {K : PySem.W.Frag} {mg : Str → Option Value} {base : Heap} {f : Addr} {fd : FuncData}
end
end K03

-- base: law_k09_whole_distances
/-! differing -/
namespace K03
open PySem L2 Evl OxK
/-- the places in which two tuples differ -/
def difJ (p q : List Nat) : List Nat := (List.range p.length).filter fun i => p.getD i 0 != q.getD i 0
def spDf (K : PySem.W.Frag) : Sp := fun vs H Q _ => ∃ (a b : Addr) (p q : List Nat), vs = [.ref a, .ref b] ∧ SqT K H a (tupJ p) ∧ SqT K H b (tupJ q) ∧ q.length = p.length ∧ p.length ≤ 100 ∧ ∀ D H', H D = none → Ex H H' → H' D = some (.lst (rowV (difJ p q))) → Q (.ref D) H'
theorem tupJ_at {p : List Nat} {i : Nat} (h : i < p.length) : (tupJ p)[i]? = some (V.int ((p.getD i 0 : Nat) : Int)) := by
  unfold tupJ
  rw [List.getElem?_map, List.getElem?_eq_getElem h, List.getD_eq_getElem?_getD, List.getElem?_eq_getElem h]
  rfl
section
variable {P : Program} {w : World} {K : PySem.W.Frag} {mg : Str → Option Value} {base : Heap} {f : Addr} {fd : FuncData}
end
end K03

-- base: law_k09_whole_distances
/-! ascending_pairs -/
namespace K03
open PySem L2 Evl OxK
/-- the pairs (low, high) with low below i, in order -/
def prsN (n : Nat) : Nat → List (Nat × Nat)
  | 0 => []
  | i + 1 => prsN n i ++ (List.range (n - (i + 1))).map fun h => (i, i + 1 + h)
def pairV (p : Nat × Nat) : List V := [.int (p.1 : Int), .int (p.2 : Int)]
def PrsJ (H : Hp) (bs : List Addr) (ps : List (Nat × Nat)) : Prop := bs.length = ps.length ∧ ∀ (i : Nat) (b : Addr) (p : Nat × Nat), bs[i]? = some b → ps[i]? = some p → H b = some (.tup (pairV p))
theorem PrsJ.ex {H H' : Hp} {bs : List Addr} {os : List (Nat × Nat)} (t : PrsJ H bs os) (e : Ex H H') : PrsJ H' bs os := ⟨t.1, fun i b q h1 h2 => e _ _ (t.2 i b q h1 h2)⟩
theorem PrsJ.snoc {H : Hp} {bs : List Addr} {T : Addr} {os : List (Nat × Nat)} {g : Nat × Nat} (h : PrsJ H bs os) (hT : H T = some (.tup (pairV g))) : PrsJ H (bs ++ [T]) (os ++ [g]) := ⟨by simp [h.1], fun i b q h1 h2 => by
  by_cases l : i < bs.length
  · rw [List.getElem?_append_left l] at h1
    rw [List.getElem?_append_left (by rw [← h.1]; exact l)] at h2
    exact h.2 i b q h1 h2
  · have e : i = bs.length := by
      have := (List.getElem?_eq_some_iff.mp h1).1
      simp at this
      omega
    subst e
    rw [List.getElem?_append_right (Nat.le_refl _), Nat.sub_self] at h1
    rw [List.getElem?_append_right (by rw [h.1]; exact Nat.le_refl _), h.1, Nat.sub_self] at h2
    cases h1
    cases h2
    exact hT⟩
theorem prsN_few {n : Nat} (h : n ≤ 24) : ∀ i, (prsN n i).length ≤ i * 24
  | 0 => Nat.le_refl _
  | i + 1 => by
    have := prsN_few h i
    show (prsN n i ++ _).length ≤ _
    rw [List.length_append, List.length_map, List.length_range]
    omega
def spAp : Sp := fun vs H Q _ => ∃ n : Nat, vs = [.int (n : Int)] ∧ n ≤ 24 ∧ ∀ D H' bs, H D = none → Ex H H' → H' D = some (.lst (bs.map V.ref)) → PrsJ H' bs (prsN n n) → Q (.ref D) H'
section
variable {P : Program} {w : World} {K : PySem.W.Frag} {mg : Str → Option Value} {base : Heap} {f : Addr} {fd : FuncData}
end
end K03

-- base: law_k09_whole_distances
/-! Team.__init__ -/
namespace K03
open PySem L2 Evl OxK
structure TCls (K : PySem.W.Frag) (C : Addr) : Prop where
  c : Cls K C
  m : NoAttr K C "members"
  s : NoAttr K C "signs"
  j : NoAttr K C "joints"
  p : NoAttr K C "places"
  w : NoAttr K C "whole"
  l : NoAttr K C "least"
def minV : List Nat → V
  | [] => .non
  | a :: r => .int ((r.foldl min a : Nat) : Int)
def leastV (os : List (List Nat)) : V := minV ((prsN os.length os.length).map fun p => (difJ (os.getD p.1 []) (os.getD p.2 [])).length)
def tFs (mt : Addr) (x : Str) (o d wm : Addr) (ls : V) : List (Str × V) := [("members", .ref mt), ("signs", .str x), ("joints", .ref o), ("places", .ref d), ("whole", .ref wm), ("least", ls)]
/-- a team at s -/
def IsT (K : PySem.W.Frag) (C CT : Addr) (H : Hp) (s : Addr) (x : Str) (ms : List Addr) (tss : List (List (List Nat))) : Prop := ∃ (dx mt o d wm : Addr) (bs : List Addr), H s = some (.ins CT dx (tFs mt x o d wm (leastV (ordJ tss (sg x).length)))) ∧ SqT K H mt (ms.map V.ref) ∧ ms.length = tss.length ∧
  (∀ (i : Nat) (m : Addr) (t : List (List Nat)), ms[i]? = some m → tss[i]? = some t → IsM K C H m x t) ∧ H o = some (.lst (bs.map V.ref)) ∧ TupsJ H bs (ordJ tss (sg x).length) ∧ H d = some (.dT (dtv 0 (ordJ tss (sg x).length))) ∧ IsM K C H wm x (movJ tss (sg x).length)
def spTi (K : PySem.W.Frag) (C CT : Addr) : Sp := fun vs H Q _ => ∃ (s a : Addr) (x : Str) (ms : List Addr) (tss : List (List (List Nat))) (H0 : Hp) (dx : Addr), vs = [.ref s, .ref a] ∧ JOk tss (sg x).length ∧ AlphaOk x ∧ (H0 a = some (.lst (ms.map V.ref)) ∨ H0 a = some (.tup (ms.map V.ref))) ∧ ms.length = tss.length ∧
  (∀ (i : Nat) (m : Addr) (t : List (List Nat)), ms[i]? = some m → tss[i]? = some t → IsM K C H0 m x t) ∧ Ex H0 H ∧ H0 s = none ∧ H s = some (.ins CT dx []) ∧ ∀ H', Ex H0 H' → IsT K C CT H' s x ms tss → Q .non H'
theorem bfsJ_ok {tss : List (List (List Nat))} {L : Nat} (J : JOk tss L) : ∀ (m d : Nat) (os : List (List Nat)), JB tss L os → d ≤ os.length → (∀ (i : Nat) (q : List Nat), i < d → os[i]? = some q → ∀ g ∈ goalsJ tss L q, g ∈ os) → 25 ≤ m + d →
    JB tss L (bfsJ tss L m d os) ∧ (∀ q ∈ bfsJ tss L m d os, ∀ g ∈ goalsJ tss L q, g ∈ bfsJ tss L m d os) ∧ ∃ x, bfsJ tss L m d os = os ++ x
  | 0, d, os, b, hd, _, h => by
    have := b.few J
    omega
  | m + 1, d, os, b, hd, hc, h => by
    show JB tss L (match os[d]? with | none => os | some q => bfsJ tss L m (d + 1) (visJ (goalsJ tss L q) os)) ∧ (∀ q ∈ (match os[d]? with | none => os | some q => bfsJ tss L m (d + 1) (visJ (goalsJ tss L q) os)), ∀ g ∈ goalsJ tss L q, g ∈ (match os[d]? with | none => os | some q => bfsJ tss L m (d + 1) (visJ (goalsJ tss L q) os))) ∧ ∃ x, (match os[d]? with | none => os | some q => bfsJ tss L m (d + 1) (visJ (goalsJ tss L q) os)) = os ++ x
    cases e : os[d]? with
    | none =>
      have ge := List.getElem?_eq_none_iff.mp e
      refine ⟨b, fun q hq g hg => ?_, [], by simp⟩
      have hq' : q ∈ os := hq
      obtain ⟨i, hi, rfl⟩ := List.mem_iff_getElem.mp hq'
      exact hc i _ (by omega) (List.getElem?_eq_getElem hi) g hg
    | some q =>
      obtain ⟨x, hx⟩ := visJ_ext (goalsJ tss L q) os
      have dl := (List.getElem?_eq_some_iff.mp e).1
      obtain ⟨h1, h2, y, hy⟩ := bfsJ_ok J m (d + 1) (visJ (goalsJ tss L q) os) (b.vis (goals_rj (b.rj q (List.mem_of_getElem? e)))) (by rw [hx, List.length_append]; omega) (fun i p hi hp g hg => by
        have pos : os[i]? = some p := by
          rw [hx, List.getElem?_append_left (by omega)] at hp
          exact hp
        by_cases ei : i = d
        · subst ei
          rw [e] at pos
          cases pos
          exact visJ_mem os hg
        · rw [hx]
          exact List.mem_append_left _ (hc i p (by omega) pos g hg)) (by omega)
      exact ⟨h1, h2, x ++ y, by show bfsJ tss L m (d + 1) (visJ (goalsJ tss L q) os) = _; rw [hy, hx, List.append_assoc]⟩
structure OOk (tss : List (List (List Nat))) (L : Nat) : Prop where
  jb : JB tss L (ordJ tss L)
  cl : ∀ q ∈ ordJ tss L, ∀ g ∈ goalsJ tss L q, g ∈ ordJ tss L
  one : ∃ x, ordJ tss L = beginJ tss :: x
theorem ordJ_ok {tss : List (List (List Nat))} {L : Nat} (J : JOk tss L) : OOk tss L := by
  obtain ⟨h1, h2, x, h3⟩ := bfsJ_ok J 25 0 [beginJ tss] (JB.beg _ _) (Nat.zero_le _) (fun i q hi => absurd hi (Nat.not_lt_zero i)) (Nat.le_refl _)
  exact ⟨h1, h2, x, h3⟩
theorem movJ_ok {tss : List (List (List Nat))} {x : Str} (J : JOk tss (sg x).length) : RowsOk x (movJ tss (sg x).length) := by
  have o := ordJ_ok J
  have fw := o.jb.few J
  have ml : (movJ tss (sg x).length).length = (ordJ tss (sg x).length).length := by simp [movJ]
  refine ⟨?_, by rw [ml]; exact fw, fun row hr => ?_, fun row hr g hg => ?_⟩
  · rw [ml]
    obtain ⟨y, hy⟩ := o.one
    rw [hy]
    simp
  · obtain ⟨q, hq, rfl⟩ := List.mem_map.mp hr
    simp [rowJ, goalsJ]
  · obtain ⟨q, hq, rfl⟩ := List.mem_map.mp hr
    obtain ⟨c, hc, rfl⟩ := List.mem_map.mp hg
    rw [ml]
    exact ixJ_lt (o.cl q hq c hc)
section
variable {K : PySem.W.Frag} {C CT : Addr} {H H2 : Hp} {s b m dx : Addr} {fs : List (Str × V)} {u v : HO} {te ta tv tl : TE} {σ : L2.St} {D : Ends} {tz : TS}
theorem keep_ne (hs : H s = some (.ins CT dx fs)) (hb : H b = some u) (hn : ∀ C dx fs, u ≠ .ins C dx fs) : upd H s v b = some u := by
  rw [upd_ne fun z => hn _ _ _ (Option.some.inj (hb.symm.trans (by rw [z]; exact hs)))]
  exact hb
theorem sqt_keep {xs : List V} (hs : H s = some (.ins CT dx fs)) (h : SqT K H b xs) : SqT K (upd H s v) b xs := by
  rcases h with (h | ⟨o, h⟩) | h
  · exact .inl (.inl (keep_ne hs h fun _ _ _ z => nomatch z))
  · exact .inl (.inr ⟨o, keep_ne hs h fun _ _ _ z => nomatch z⟩)
  · exact .inr h
theorem ism_keep {x : Str} {t : List (List Nat)} (hs : H s = some (.ins CT dx fs)) (h : IsM K C H m x t) (ne : m ≠ s) : IsM K C (upd H s v) m x t := by
  obtain ⟨dx, r, d, h1, ⟨bs, hB, bl, hR⟩, hd⟩ := h
  exact ⟨dx, r, d, by rw [upd_ne ne]; exact h1, ⟨bs, sqt_keep hs hB, bl, fun i b row p q => sqt_keep hs (hR i b row p q)⟩, keep_ne hs hd fun _ _ _ z => nomatch z⟩
theorem TupsJ.keep {bs : List Addr} {os : List (List Nat)} (hs : H s = some (.ins CT dx fs)) (t : TupsJ H bs os) : TupsJ (upd H s v) bs os := ⟨t.1, fun i b q h1 h2 => keep_ne hs (t.2 i b q h1 h2) fun _ _ _ z => nomatch z⟩
theorem LstsJ.keep {bs : List Addr} {os : List (List Nat)} (hs : H s = some (.ins CT dx fs)) (t : LstsJ H bs os) : LstsJ (upd H s v) bs os := ⟨t.1, fun i b q h1 h2 => keep_ne hs (t.2 i b q h1 h2) fun _ _ _ z => nomatch z⟩
theorem ev_fldT {f : Str} {y : V} (hv : Ev ta σ H (.ref s)) (hs : H s = some (.ins CT dx fs)) (c : Cls K CT) (n : NoAttr K CT f) (l : fs.lookup f = some y) : Ev (tFld K ta f) σ H y := fun H1 e1 Q q => hv H1 e1 _ fun H2 e2 => ⟨s, CT, dx, fs, y, rfl, (e1.trans e2) _ _ hs, c, n, l, q H2 e2⟩
theorem q_fld {f : Str} {y : V} (hv : Ev tv σ H y) (hx : Ev ta σ H (.ref s)) (hs : H s = some (.ins CT dx fs)) (c : Cls K CT) (n : NoAttr K CT f) (l : fs.length < 1000) (k : ∀ H1, Ex H H1 → tz D σ (upd H1 s (.ins CT dx (putF f y fs)))) : tSeq (sFld K ta tv f) tz D σ H :=
  hv H (Ex.refl H) _ fun H1 e1 => hx H1 e1 _ fun H2 e2 => ⟨s, CT, dx, fs, rfl, (e1.trans e2) _ _ hs, c, n, l, k H2 (e1.trans e2)⟩
/-- self.f = what makes an object -/
theorem q_fldN {f : Str} (P : Addr → Hp → Prop) (hv : ∀ Q : VK, (∀ p H1, Ex H H1 → P p H1 → Q (.ref p) H1) → tv σ H Q) (hx : Ev ta σ H (.ref s)) (hP : ∀ p H1 H2, Ex H1 H2 → P p H1 → P p H2) (hs : H s = some (.ins CT dx fs)) (c : Cls K CT) (n : NoAttr K CT f) (l : fs.length < 1000)
    (k : ∀ p H1, Ex H H1 → P p H1 → tz D σ (upd H1 s (.ins CT dx (putF f (.ref p) fs)))) : tSeq (sFld K ta tv f) tz D σ H :=
  hv _ fun p H1 e1 h1 => hx H1 e1 _ fun H2 e2 => ⟨s, CT, dx, fs, rfl, (e1.trans e2) _ _ hs, c, n, l, k p H2 (e1.trans e2) (hP p H1 H2 e2 h1)⟩
theorem tup_any {a : Addr} {xs : List V} {Q : VK} (hM : H a = some (.lst xs) ∨ H a = some (.tup xs)) (k : ∀ mt H', Ex H H' → SqT K H' mt xs → Q (.ref mt) H') : rTupOf K [.ref a] H Q := by
  rcases hM with h | h
  · exact ⟨a, xs, rfl, .inl ⟨SqL.of h, fun l hl => k l _ (Ex.new hl) (SqT.of upd_same)⟩⟩
  · exact ⟨a, xs, rfl, .inr ⟨SqT.of h, k a H (Ex.refl H) (SqT.of h)⟩⟩
theorem dc_enumT {a : Addr} {bs : List Addr} {os : List (List Nat)} (ht : Ev tl σ H (.ref a)) (ha : H a = some (.lst (bs.map V.ref))) (hB : TupsJ H bs os) (nd : os.Nodup) (few : os.length ≤ 100) {j j2 : Nat} {vs : List Nat} (hw : ∀ x y, wipe (((wipe σ vs).set j (some x)).set j2 (some y)) vs = wipe σ vs)
    (g2 : ∀ x y, (((wipe σ vs).set j (some x)).set j2 (some y))[j2]? = some (some y)) (g1 : ∀ x y, (((wipe σ vs).set j (some x)).set j2 (some y))[j]? = some (some x)) (Q : VK) (q : ∀ D H2, Ex H H2 → H2 D = some (.dT (dtv 0 os)) → Q (.ref D) H2) :
    tDcG (iEnum K (tCons tl tNil)) (gTup K 2 (gCons (gName j) (gCons (gName j2) gNil))) tYes (tVar j2) (tVar j) (.dT []) putT vs σ H Q := by
  refine ht H (Ex.refl H) _ fun H2 e2 => ⟨a, _, rfl, SqL.of (e2 _ _ ha), fun D hD => ?_⟩
  have wk := wk_el (SqL.of (K := K) (e2 _ _ ha))
  have bl : (bs.map V.ref).length = os.length := by rw [List.length_map, hB.1]
  rw [bl] at wk
  refine ⟨fun i m H' => m = os.length - i ∧ i ≤ os.length ∧ Ex H2 H' ∧ H' D = some (.dT (dtv 0 (os.take i))), ⟨os.length, rfl, Nat.zero_le _, Ex.new hD, upd_same⟩, ?_⟩
  rintro i m H3 ⟨rfl, hi, e3, hDd⟩
  by_cases hend : i = os.length
  · subst hend
    rw [List.take_length] at hDd
    exact .inl ⟨wk.stop H3 e3, q D H3 (e2.trans e3) hDd⟩
  have lt : i < os.length := by omega
  refine .inr ⟨wk.go i H3 e3 lt, fun H' => (i + 1 ≤ os.length ∧ Ex H2 H' ∧ H' D = some (.dT (dtv 0 (os.take (i + 1))))), fun H' h => ⟨os.length - (i + 1), by omega, rfl, h⟩, fun v H4 yl => ?_⟩
  obtain ⟨T', y, rfl, hT, rfl, hy⟩ := wk.yld i H3 v H4 e3 lt yl
  obtain ⟨b, hb, rfl⟩ : ∃ b, bs[i]? = some b ∧ y = V.ref b := by
    rw [List.getElem?_map] at hy
    cases e : bs[i]? with
    | none => rw [e] at hy; cases hy
    | some g => rw [e] at hy; exact ⟨g, rfl, (Option.some.inj hy).symm⟩
  have hq : os[i]? = some os[i] := List.getElem?_eq_getElem lt
  have tq := hB.2 i b _ hb hq
  have eT : Ex H3 (upd H3 T' (.tup [.int (i : Nat), .ref b])) := Ex.new hT
  refine ⟨T', _, rfl, SqT.of upd_same, rfl, _, _, rfl, _, _, rfl, rfl, hw _ _, tt_yes ?_⟩
  have new : os[i] ∉ os.take i := fun z => by
    obtain ⟨k2, hk2, ek⟩ := List.mem_iff_getElem.mp z
    rw [List.length_take] at hk2
    rw [List.getElem_take] at ek
    exact (List.pairwise_iff_getElem.mp nd) k2 i (by omega) lt (by omega) ek
  have tl2 : (os.take i).length = i := by rw [List.length_take]; omega
  refine ⟨_, g2 _ _, _, g1 _ _, _, ⟨_, keyJ os[i], b, rfl, by rw [keyJ_kV]; exact eT _ _ (e3 _ _ (e2 _ _ tq)), eT _ _ hDd, by rw [dtv_len, tl2]; exact small1000 (by omega), rfl⟩, by omega, Ex.mut (e3.trans eT) hD, ?_⟩
  have z := dtv_put new
  rw [tl2] at z
  have tk : os.take (i + 1) = os.take i ++ [os[i]] := by rw [List.take_add_one, hq]; rfl
  rw [upd_same, tk, ← z]
theorem el_prs {ps : List (Nat × Nat)} {j j2 : Nat} {vs : List Nat} (f : Nat → V) (ht : ∀ H1, Ex H H1 → ∀ Q : VK, (∀ p H2 bs, Ex H1 H2 → H2 p = some (.lst (bs.map V.ref)) → PrsJ H2 bs ps → Q (.ref p) H2) → tl σ H1 Q) (few : ps.length ≤ 600)
    (hw : ∀ x y, wipe (((wipe σ vs).set j (some x)).set j2 (some y)) vs = wipe σ vs) (it : ∀ (i : Nat) (p : Nat × Nat) H1, Ex H H1 → ps[i]? = some p → Ev te (((wipe σ vs).set j (some (.int (p.1 : Int)))).set j2 (some (.int (p.2 : Int)))) H1 (f i)) :
    EvL (tLc (iList K tl) (gTup K 2 (gCons (gName j) (gCons (gName j2) gNil))) tYes te vs) σ H ((List.range ps.length).map f) := by
  intro H1 e1 Q q
  refine ht H1 e1 _ fun p H2 bs e2 hp hB => ⟨p, rfl, ⟨_, SqL.of hp⟩, fun D hD => ?_⟩
  have wk := wk_l (SqL.of (K := K) hp)
  have bl : (bs.map V.ref).length = ps.length := by rw [List.length_map, hB.1]
  rw [bl] at wk
  refine lc_any (J := Itl K p) (n := ps.length) (fun i H' => Ex H2 H' ∧ H' D = some (.lst ((List.range i).map f))) ⟨Ex.new hD, upd_same⟩ (fun i H' hi p => wk.go i H' p.1 hi) (fun H' p => wk.stop H' p.1) ?_ (fun H' p => q D H' (fresh_back e2 hD) (e2.trans p.1) p.2)
  rintro i H3 y H4 hi ⟨e3, hDl⟩ yl
  obtain ⟨rfl, hz⟩ := wk.yld i H3 y H4 e3 hi yl
  obtain ⟨b, hb, rfl⟩ : ∃ b, bs[i]? = some b ∧ y = V.ref b := by
    rw [List.getElem?_map] at hz
    cases e : bs[i]? with
    | none => rw [e] at hz; cases hz
    | some g => rw [e] at hz; exact ⟨g, rfl, (Option.some.inj hz).symm⟩
  have hp2 : ps[i]? = some ps[i] := List.getElem?_eq_getElem hi
  have tp := e3 _ _ (hB.2 i b _ hb hp2)
  refine ⟨b, _, rfl, SqT.of tp, rfl, _, _, rfl, _, _, rfl, rfl, hw _ _, tt_yes ?_⟩
  refine it i _ _ ((e1.trans e2).trans e3) hp2 _ (Ex.refl _) _ fun H5 e5 => ?_
  refine ⟨_, e5 _ _ hDl, small1000 (by simp; omega), Ex.mut (e3.trans e5) hD, ?_⟩
  rw [upd_same, List.range_succ]
  simp
end
theorem foldl_minI (a : Nat) : ∀ r : List Nat, (r.map fun n : Nat => (n : Int)).foldl min (a : Int) = ((r.foldl min a : Nat) : Int)
  | [] => rfl
  | b :: r => by
    show (r.map fun n : Nat => (n : Int)).foldl min (min (a : Int) (b : Int)) = ((r.foldl min (min a b) : Nat) : Int)
    rw [← foldl_minI (min a b) r]
    congr 1
    omega
theorem prs_lt {n : Nat} : ∀ i, i ≤ n → ∀ p ∈ prsN n i, p.1 < n ∧ p.2 < n
  | 0, _, p, h => nomatch h
  | i + 1, hi, p, h => by
    rcases List.mem_append.mp (show p ∈ prsN n i ++ _ from h) with z | z
    · exact prs_lt i (by omega) p z
    · obtain ⟨h2, h3, rfl⟩ := List.mem_map.mp z
      have := List.mem_range.mp h3
      exact ⟨by show i < n; omega, by show i + 1 + h2 < n; omega⟩
section
variable {P : Program} {w : World} {K : PySem.W.Frag} {mg : Str → Option Value} {base : Heap} {f : Addr} {fd : FuncData}
end
end K03

/-! the law's own table, read -/
namespace K03
open PySem L2 Evl OxK
theorem occ5 : ∀ x ∈ five5, ∀ j, j < 3 → ((sg x)[j]?.all fun c => decide (Builtin.Str.occurrences x ⟨#[c]⟩ 0 x.length 1 = [j])) = true := by decide +kernel
def spLg : Sp := fun vs H Q _ => ∃ (m : Addr) (x : Str) (rows : List (List Nat)) (st j c : Nat) (row : List Nat) (g : Nat), vs = [.ref m, .int (st : Int), .str ⟨#[c]⟩] ∧ Mod H m x rows ∧ x ∈ five5 ∧ (sg x)[j]? = some c ∧ rows[st]? = some row ∧ row[j]? = some g ∧
  ∀ H', Ex H H' → Q (.int (g : Int)) H'
section
variable {P : Program} {w : World} {K : PySem.W.Frag} {mg : Str → Option Value} {base : Heap} {f : Addr} {fd : FuncData}
theorem scLg : FnScope ["_law_model", "_law_state_z", "_law_sign"] ["_law_model", "_law_state_z", "_law_sign"] (defScope sLg) := ⟨rfl, rfl, rfl, by decide +kernel, rfl, by decide +kernel, by decide +kernel⟩
theorem ok_lg (F : FnP K "_law_goal" sLg f fd) : FnOk P w K mg base CX0 1 f fd ["_law_model", "_law_state_z", "_law_sign"] spLg := by
  refine F.ok scLg (fun vs H Q E h => ?_) (fun cdv A outer s H vs Q E hr h => ?_)
  · obtain ⟨m, x, rows, st, j, c, row, g, rfl, _⟩ := h
    rfl
  · obtain ⟨m, x, rows, st, j, c, row, g, rfl, ⟨L, ls, hm, hL, ll, hls⟩, x5, hc, hrow, hg, k⟩ := h
    refine ⟨_, PSs.nox (pss_one (ps_ret (pe_ix ix_list (pe_ix ix_list (pe_ix ix_tup (pv 0) pe_int (fun _ _ => rfl)) (pv 1) (fun _ _ => rfl)) (pe_m1 PySem.F.slot_str_index PySem.F.type_str_index mt_sindex (pe_ix ix_tup (pv 0) pe_int (fun _ _ => rfl)) (pv 2)) (fun _ _ => rfl)))), ?_⟩
    have stn := (List.getElem?_eq_some_iff.mp hrow).1
    obtain ⟨a, ha⟩ : ∃ a, ls[st]? = some a := ⟨_, List.getElem?_eq_getElem (by omega)⟩
    have hj := (List.getElem?_eq_some_iff.mp hc).1
    have h3 := (alpha5 x x5).three
    have occ := occ5 x x5 j (by omega)
    rw [hc] at occ
    have oc : Builtin.Str.occurrences x ⟨#[c]⟩ 0 x.length 1 = [j] := of_decide_eq_true occ
    have hav : (ls.map V.ref)[st]? = some (V.ref a) := by rw [List.getElem?_map, ha]; rfl
    have hgv : (rowV row)[j]? = some (V.int (g : Int)) := by
      show (row.map fun g : Nat => V.int (g : Int))[j]? = _
      rw [List.getElem?_map, hg]; rfl
    refine ⟨_, rfl, m, _, 1, _, rfl, rfl, SqT.of hm, rfl, _, rfl, L, _, (st : Int), _, rfl, rfl, SqL.of hL, atI_nat hav, _, rfl, m, _, 0, _, rfl, rfl, SqT.of hm, rfl, ⟨x, rfl⟩, _, rfl, x, ⟨#[c]⟩, j, [], rfl, rfl, oc, ?_⟩
    exact ⟨a, rowV row, (j : Int), _, rfl, rfl, SqL.of (hls st a row ha hrow), atI_nat hgv, k H (Ex.refl H)⟩
end
end K03

-- base: law_k09_whole_distances
/-! _law_step -/
namespace K03
open PySem L2 Evl OxK
def ModsJ (H : Hp) (x : Str) (ms : List Addr) (tss : List (List (List Nat))) : Prop := ∀ (i : Nat) (m : Addr) (t : List (List Nat)), ms[i]? = some m → tss[i]? = some t → Mod H m x t
theorem ModsJ.ex {H H' : Hp} {x : Str} {ms : List Addr} {tss : List (List (List Nat))} (h : ModsJ H x ms tss) (e : Ex H H') : ModsJ H' x ms tss := fun i m t a b => mod_ex (h i m t a b) e
def spSj (K : PySem.W.Frag) : Sp := fun vs H Q _ => ∃ (lm b : Addr) (c ci : Nat) (x : Str) (ms : List Addr) (tss : List (List (List Nat))) (q : List Nat), vs = [.ref lm, .ref b, .str ⟨#[c]⟩] ∧ H lm = some (.lst (ms.map V.ref)) ∧ ms.length = tss.length ∧ ModsJ H x ms tss ∧ H b = some (.tup (tupJ q)) ∧ x ∈ five5 ∧ (sg x)[ci]? = some c ∧ JOk tss (sg x).length ∧ GJ tss q ∧
  ∀ T H', H T = none → Ex H H' → H' T = some (.tup (tupJ (stepJ tss q ci))) → Q (.ref T) H'
theorem q_retTup {K : PySem.W.Frag} {te : TE} {D : Ends} {σ : L2.St} {H : Hp} {xs : List V} (h : EvL te σ H xs) (k : ∀ T H1, H T = none → Ex H H1 → H1 T = some (.tup xs) → D.rt (.ref T) H1) : tRet (tCB (rTupOf K) (tCons te tNil)) D σ H :=
  h H (Ex.refl H) _ fun p H1 hp e1 h1 => ⟨p, xs, rfl, .inl ⟨SqL.of h1, fun l hl => k l _ (fresh_back e1 hl) (e1.trans (Ex.new hl)) upd_same⟩⟩
section
variable {P : Program} {w : World} {K : PySem.W.Frag} {mg : Str → Option Value} {base : Heap} {f : Addr} {fd : FuncData}
end
end K03

-- base: law_k09_whole_distances
/-! what parting and weakest tell (pure part) -/
namespace K03
open PySem L2 Evl OxK
def spDs (K : PySem.W.Frag) (C CT : Addr) : Sp := fun vs H Q _ => ∃ (s : Addr) (x : Str) (ms : List Addr) (tss : List (List (List Nat))), vs = [.ref s] ∧ IsT K C CT H s x ms tss ∧ ∀ H', Ex H H' → Q (leastV (ordJ tss (sg x).length)) H'
theorem ist_ex {K : PySem.W.Frag} {C CT : Addr} {H H' : Hp} {s : Addr} {x : Str} {ms : List Addr} {tss : List (List (List Nat))} (h : IsT K C CT H s x ms tss) (e : Ex H H') : IsT K C CT H' s x ms tss := by
  obtain ⟨dx, mt, o, d, wm, bs, h1, h2, h3, h4, h5, h6, h7, h8⟩ := h
  exact ⟨dx, mt, o, d, wm, bs, e _ _ h1, ex_t e h2, h3, fun i m t a b => sqt_ex (h4 i m t a b) e, e _ _ h5, h6.ex e, e _ _ h7, sqt_ex h8 e⟩
def spPt (K : PySem.W.Frag) (C CT : Addr) : Sp := fun vs H Q _ => ∃ (s : Addr) (x : Str) (ms : List Addr) (tss : List (List (List Nat))) (i j : Nat), vs = [.ref s, .int (i : Int), .int (j : Int)] ∧ JOk tss (sg x).length ∧ IsT K C CT H s x ms tss ∧ i < (ordJ tss (sg x).length).length ∧ j < (ordJ tss (sg x).length).length ∧
  ∀ D H', H D = none → Ex H H' → H' D = some (.lst (rowV (difJ ((ordJ tss (sg x).length).getD i []) ((ordJ tss (sg x).length).getD j [])))) → Q (.ref D) H'
theorem joint_at {H : Hp} {bs : List Addr} {os : List (List Nat)} (hB : TupsJ H bs os) {i : Nat} (hi : i < os.length) : ∃ b, (bs.map V.ref)[i]? = some (V.ref b) ∧ H b = some (.tup (tupJ (os.getD i []))) := by
  have lb : i < bs.length := by rw [hB.1]; exact hi
  have hq : os[i]? = some os[i] := List.getElem?_eq_getElem hi
  have eg : os.getD i [] = os[i] := by rw [List.getD_eq_getElem?_getD, hq]; rfl
  exact ⟨bs[i], by rw [List.getElem?_map, List.getElem?_eq_getElem lb]; rfl, by rw [eg]; exact hB.2 i _ _ (List.getElem?_eq_getElem lb) hq⟩
def ForW (J : It) (g : TG) (tb : TS) (D : Ends) (σ : L2.St) (H : Hp) : Prop := ∃ W : Nat → Nat → L2.St → Hp → Prop, (∃ m, W 0 m σ H) ∧ ∀ i m σ H, W i m σ H →
  (J.stop i H ∧ D.nx σ H) ∨ (J.go i H ∧ ∃ N : L2.St → Hp → Prop, (∀ σ' H', N σ' H' → ∃ m', m' < m ∧ W (i + 1) m' σ' H') ∧ ∀ x H', J.yld i H x H' → g x σ H' fun σ2 H2 => tb { D with nx := N, ct := N, bk := D.nx } σ2 H2)
theorem q_forT {K : PySem.W.Frag} {te : TE} {g : TG} {tb tz : TS} {D : Ends} {σ : L2.St} {H : Hp} {xs : List V} (h : EvU te σ H xs) (k : ∀ T H1, Ex H H1 → H1 T = some (.tup xs) → ForW (Itt K T) g tb { D with nx := tz D } σ H1) : tSeq (tFor (iTup K te) g tb) tz D σ H :=
  h H (Ex.refl H) _ fun T H1 _ e1 h1 => ⟨T, rfl, ⟨_, SqT.of h1⟩, k T H1 e1 h1⟩
theorem q_retC2 {sp : Sp} {E : XK} {ta tb : TE} {D : Ends} {σ : L2.St} {H : Hp} {y z : V} (ha : Ev ta σ H y) (hb : Ev tb σ H z) (k : ∀ H1, Ex H H1 → sp [y, z] H1 (fun v H2 => D.rt v H2) E) : tRet (tCall sp [] E (tCons ta (tCons tb tNil))) D σ H :=
  ha H (Ex.refl H) _ fun H1 e1 => hb H1 e1 _ fun H2 e2 => k H2 (e1.trans e2)
theorem pe_fldK {X : Cx} {K : PySem.W.Frag} {e : Expr} {f : Str} {pos : Pos} {ta : TE} (he : PE X e ta) (hb : attributeBase e f X.env (eval e X.env) = eval e X.env := by rfl) (hK : X.K = K := by rfl) : PE X (.Attribute e f pos) (tFld K ta f) := by
  subst hK
  exact pe_fld he hb
theorem scal_least (n : Int) (os : List (List Nat)) : scal (.int n) (leastV os) = true := by
  unfold leastV
  generalize (prsN os.length os.length).map (fun p => (difJ (os.getD p.1 []) (os.getD p.2 [])).length) = zs
  cases zs <;> rfl
def weakN (os : List (List Nat)) : List (Nat × Nat) := (prsN os.length os.length).filter fun p => decide (V.int ((difJ (os.getD p.1 []) (os.getD p.2 [])).length : Int) = leastV os)
def spWe (K : PySem.W.Frag) (C CT : Addr) : Sp := fun vs H Q _ => ∃ (s : Addr) (x : Str) (ms : List Addr) (tss : List (List (List Nat))), vs = [.ref s] ∧ JOk tss (sg x).length ∧ IsT K C CT H s x ms tss ∧ ∀ D H' bs, H D = none → Ex H H' → H' D = some (.lst (bs.map V.ref)) → PrsJ H' bs (weakN (ordJ tss (sg x).length)) → Q (.ref D) H'
theorem q_asgC1 {sp : Sp} {E : XK} {ta : TE} {tz : TS} {D : Ends} {σ : L2.St} {H : Hp} {y : V} {i : Nat} (ha : Ev ta σ H y) (k : ∀ H1, Ex H H1 → sp [y] H1 (fun v H2 => tz D (σ.set i (some v)) H2) E) : tSeq (tAsg (tCall sp [] E (tCons ta tNil)) (gName i)) tz D σ H := ha H (Ex.refl H) _ fun H1 e1 => k H1 e1
theorem prs_filter {K : PySem.W.Frag} {tl : TE} {tt : TT} {σ : L2.St} {H : Hp} {p : Addr} {bs0 : List Addr} {ps : List (Nat × Nat)} {j j2 : Nat} {vs : List Nat} (f : Nat × Nat → Bool) (ht : Ev tl σ H (.ref p)) (hp : H p = some (.lst (bs0.map V.ref))) (hB : PrsJ H bs0 ps) (few : ps.length ≤ 600)
    (hw : ∀ x y, wipe (((wipe σ vs).set j (some x)).set j2 (some y)) vs = wipe σ vs) (g1 : ∀ x y, (((wipe σ vs).set j (some x)).set j2 (some y))[j]? = some (some x)) (g2 : ∀ x y, (((wipe σ vs).set j (some x)).set j2 (some y))[j2]? = some (some y))
    (it : ∀ (i : Nat) (q : Nat × Nat) H1, Ex H H1 → ps[i]? = some q → EvT tt (((wipe σ vs).set j (some (.int (q.1 : Int)))).set j2 (some (.int (q.2 : Int)))) H1 (f q)) (Q : VK) (k : ∀ D H2 bs, H D = none → Ex H H2 → H2 D = some (.lst (bs.map V.ref)) → PrsJ H2 bs (ps.filter f) → Q (.ref D) H2) :
    tLc (iList K tl) (gTup K 2 (gCons (gName j) (gCons (gName j2) gNil))) tt (tTup (tCons (tVar j) (tCons (tVar j2) tNil))) vs σ H Q := by
  refine ht H (Ex.refl H) _ fun H2 e2 => ⟨p, rfl, ⟨_, SqL.of (e2 _ _ hp)⟩, fun D hD => ?_⟩
  have wk := wk_l (SqL.of (K := K) (e2 _ _ hp))
  have bl : (bs0.map V.ref).length = ps.length := by rw [List.length_map, hB.1]
  rw [bl] at wk
  refine lc_any (J := Itl K p) (n := ps.length) (fun i H' => i ≤ ps.length ∧ Ex H2 H' ∧ ∃ bs : List Addr, H' D = some (.lst (bs.map V.ref)) ∧ PrsJ (cut H' [D]) bs ((ps.take i).filter f)) ⟨Nat.zero_le _, Ex.new hD, [], upd_same, rfl, fun i b p h => by cases h⟩ (fun i H' hi p => wk.go i H' p.2.1 hi) (fun H' p => wk.stop H' p.2.1) ?_ ?_
  · rintro i H3 y H4 hi ⟨_, e3, bs, hDl, hP⟩ yl
    obtain ⟨rfl, hz⟩ := wk.yld i H3 y H4 e3 hi yl
    obtain ⟨b, hb, rfl⟩ : ∃ b, bs0[i]? = some b ∧ y = V.ref b := by
      rw [List.getElem?_map] at hz
      cases e : bs0[i]? with
      | none => rw [e] at hz; cases hz
      | some g => rw [e] at hz; exact ⟨g, rfl, (Option.some.inj hz).symm⟩
    have hq : ps[i]? = some ps[i] := List.getElem?_eq_getElem hi
    have tk : ps.take (i + 1) = ps.take i ++ [ps[i]] := by rw [List.take_add_one, hq]; rfl
    have tp := e3 _ _ (e2 _ _ (hB.2 i b _ hb hq))
    refine ⟨b, _, rfl, SqT.of tp, rfl, _, _, rfl, _, _, rfl, rfl, hw _ _, ?_⟩
    refine it i _ _ (e2.trans e3) hq _ (Ex.refl _) _ fun H5 e5 => ?_
    have ef : (ps.take (i + 1)).filter f = (ps.take i).filter f ++ (if f ps[i] = true then [ps[i]] else []) := by
      rw [tk, List.filter_append]
      congr 1
      rw [List.filter_cons, List.filter_nil]
    have lb : bs.length ≤ 1000 := by
      rw [hP.1]
      have := List.length_filter_le f (ps.take i)
      rw [List.length_take] at this
      omega
    cases hf : f ps[i] with
    | true =>
      rw [if_pos rfl]
      rw [hf, if_pos rfl] at ef
      refine (eu_tup (vs := [.int (ps[i].1 : Int), .int (ps[i].2 : Int)]) (ea_cons (ev_var (g1 _ _)) (ea_cons (ev_var (g2 _ _)) ea_nil)) (by simp)) H5 (Ex.refl H5) _ fun T H6 hT e6 hT6 => ?_
      have nT : T ∉ [D] := by
        rw [List.mem_singleton]
        exact ne_new hT (e5 _ _ hDl)
      refine ⟨_, e6 _ _ (e5 _ _ hDl), small1000 (by rw [List.length_map]; exact lb), hi, Ex.mut (e3.trans (e5.trans e6)) hD, bs ++ [T], by rw [upd_same, List.map_append]; rfl, ?_⟩
      rw [cut_upd (List.mem_singleton.mpr rfl), ef]
      exact (hP.ex (cut_mono (e5.trans e6))).snoc (cut_out nT hT6)
    | false =>
      rw [if_neg Bool.false_ne_true]
      rw [hf, if_neg Bool.false_ne_true, List.append_nil] at ef
      refine ⟨hi, e3.trans e5, bs, e5 _ _ hDl, ?_⟩
      rw [ef]
      exact hP.ex (cut_mono e5)
  · rintro H3 ⟨_, e3, bs, hDl, hP⟩
    rw [List.take_length] at hP
    exact k D H3 bs (fresh_back e2 hD) (e2.trans e3) hDl (hP.ex (cut_le _ _))
end K03

-- base: law_k09_whole_distances
/-! a walk told of what a list holds -/
namespace K03
open PySem L2 Evl OxK
theorem PrsJ.app {H : Hp} {bs cs : List Addr} {ps qs : List (Nat × Nat)} (h1 : PrsJ H bs ps) (h2 : PrsJ H cs qs) : PrsJ H (bs ++ cs) (ps ++ qs) := ⟨by rw [List.length_append, List.length_append, h1.1, h2.1], fun i b q e1 e2 => by
  by_cases c : i < bs.length
  · rw [List.getElem?_append_left c] at e1
    rw [List.getElem?_append_left (by rw [← h1.1]; exact c)] at e2
    exact h1.2 i b q e1 e2
  · rw [List.getElem?_append_right (by omega)] at e1
    rw [List.getElem?_append_right (by rw [← h1.1]; omega), ← h1.1] at e2
    exact h2.2 _ b q e1 e2⟩
end K03

-- base: law_k09_whole_distances
/-! _law_joint -/
namespace K03
open PySem L2 Evl OxK
/-- the dict of the first words -/
def dws (kvs : List (List Nat × Str)) : List (List Key × V) := kvs.map fun p => (keyJ p.1, .str p.2)
def spJo : Sp := fun vs H Q _ => ∃ (lm : Addr) (x : Str) (ms : List Addr) (tss : List (List (List Nat))), vs = [.ref lm] ∧ H lm = some (.lst (ms.map V.ref)) ∧ ms.length = tss.length ∧ ModsJ H x ms tss ∧ x ∈ five5 ∧ JOk tss (sg x).length ∧
  ∀ d H' kvs, H d = none → Ex H H' → H' d = some (.dT (dws kvs)) → kvs.map (·.1) = ordJ tss (sg x).length → Q (.ref d) H'
theorem dws_no {g : List Nat} : ∀ {kvs : List (List Nat × Str)}, g ∉ kvs.map (·.1) → valV (dws kvs) (keyJ g) = none
  | [], _ => rfl
  | p :: r, h => by
    have ne : ¬ keyJ p.1 = keyJ g := fun z => h (by rw [← keyJ_inj z]; exact List.mem_cons_self)
    show valV ((keyJ p.1, V.str p.2) :: dws r) _ = _
    rw [valV_neg ne]
    exact dws_no fun q => h (List.mem_cons_of_mem _ q)
theorem dws_yes {g : List Nat} : ∀ {kvs : List (List Nat × Str)}, g ∈ kvs.map (·.1) → ∃ w, valV (dws kvs) (keyJ g) = some (.str w) ∧ (g, w) ∈ kvs
  | [], h => nomatch h
  | p :: r, h => by
    show ∃ w, valV ((keyJ p.1, V.str p.2) :: dws r) _ = some (.str w) ∧ _
    by_cases e : p.1 = g
    · subst e
      exact ⟨p.2, valV_pos rfl, List.mem_cons_self⟩
    · have ne : ¬ keyJ p.1 = keyJ g := fun z => e (keyJ_inj z)
      obtain ⟨w, h1, h2⟩ := dws_yes (kvs := r) ((List.mem_cons.mp h).resolve_left fun q => e q.symm)
      exact ⟨w, by rw [valV_neg ne]; exact h1, List.mem_cons_of_mem _ h2⟩
theorem dws_some (g : List Nat) (kvs : List (List Nat × Str)) : (valV (dws kvs) (keyJ g)).isSome = decide (g ∈ kvs.map (·.1)) := by
  by_cases h : g ∈ kvs.map (·.1)
  · obtain ⟨w, h1, _⟩ := dws_yes h
    rw [h1]
    simp [h]
  · rw [dws_no h]
    simp [h]
theorem dws_put {g : List Nat} {kvs : List (List Nat × Str)} {w : Str} (h : g ∉ kvs.map (·.1)) : putK (dws kvs) (keyJ g) (.str w) = dws (kvs ++ [(g, w)]) := by
  have z : ((dws kvs).any fun kv => decide (kv.1 = keyJ g)) = false := by rw [valV_any, dws_no h]; rfl
  unfold putK
  rw [z]
  simp [dws]
theorem dws_len (kvs : List (List Nat × Str)) : (dws kvs).length = kvs.length := by simp [dws]
theorem wk_strJ {z : Str} {H0 : Hp} : Wk (Its z) H0 (sg z).length (fun i y H1 H2 => H2 = H1 ∧ ∃ c, (sg z)[i]? = some c ∧ y = .str ⟨#[c]⟩) where
  go := fun i H _ hi => by
    show i < z.cps.size
    simpa [sg] using hi
  stop := fun H _ => by
    show z.cps.size ≤ (sg z).length
    simp [sg]
  yld := fun i H x H' _ _ ⟨r, c, hc, e⟩ => ⟨r, c, by simpa [sg] using hc, e⟩
theorem q_forS {te : TE} {g : TG} {tb tz : TS} {D : Ends} {σ : L2.St} {H : Hp} {x : Str} (h : Ev te σ H (.str x)) (k : ∀ H1, Ex H H1 → ForW (Its x) g tb { D with nx := tz D } σ H1) : tSeq (tFor (iStr te) g tb) tz D σ H :=
  h H (Ex.refl H) _ fun H1 e1 => ⟨x, rfl, k H1 e1⟩
theorem q_asgTup {K : PySem.W.Frag} {te : TE} {tz : TS} {D : Ends} {σ : L2.St} {H : Hp} {xs : List V} {i : Nat} (h : EvL te σ H xs) (k : ∀ T H1, H T = none → Ex H H1 → H1 T = some (.tup xs) → tz D (σ.set i (some (.ref T))) H1) : tSeq (tAsg (tCB (rTupOf K) (tCons te tNil)) (gName i)) tz D σ H :=
  h H (Ex.refl H) _ fun p H1 hp e1 h1 => ⟨p, xs, rfl, .inl ⟨SqL.of h1, fun l hl => k l _ (fresh_back e1 hl) (e1.trans (Ex.new hl)) upd_same⟩⟩
/-- the dict tells kvs, the list os -/
def Fnd (Hs : Hp) (d o : Addr) (kvs : List (List Nat × Str)) (os : List (List Nat)) (H' : Hp) : Prop := Ex Hs H' ∧ H' d = some (.dT (dws kvs)) ∧ ∃ bs : List Addr, H' o = some (.lst (bs.map V.ref)) ∧ TupsJ (cut H' [d, o]) bs os
theorem Fnd.ex {Hs : Hp} {d o : Addr} {kvs : List (List Nat × Str)} {os : List (List Nat)} {H' H2 : Hp} (h : Fnd Hs d o kvs os H') (e : Ex H' H2) : Fnd Hs d o kvs os H2 := by
  obtain ⟨h1, h2, bs, h3, h4⟩ := h
  exact ⟨h1.trans e, e _ _ h2, bs, e _ _ h3, h4.ex (cut_mono e)⟩
theorem bfsJ_some {tss : List (List (List Nat))} {L m d : Nat} {os : List (List Nat)} {q : List Nat} (h : os[d]? = some q) : bfsJ tss L (m + 1) d os = bfsJ tss L m (d + 1) (visJ (goalsJ tss L q) os) := by
  show (match os[d]? with | none => os | some q => bfsJ tss L m (d + 1) (visJ (goalsJ tss L q) os)) = _
  rw [h]
section
variable {P : Program} {w : World} {K : PySem.W.Frag} {mg : Str → Option Value} {base : Heap} {f : Addr} {fd : FuncData}
end
end K03

/-! what stands behind a draw -/
namespace K03
open PySem L2 Evl OxK
theorem bag_ne {H : Hp} {b l c : Addr} {ns : List Int} {o : HO} (B : Bag H b l ns) (h : H c = some o) (no : ∀ i j s : Int, o ≠ .lst [.ref l, .int i, .int j, .int s]) : c ≠ b := by
  rintro rfl
  obtain ⟨_, _, _, i, j, s, hb, _⟩ := B
  rw [hb] at h
  exact no i j s (Option.some.inj h).symm
theorem no_rows (ls : List Addr) (l : Addr) (i j s : Int) : HO.lst (ls.map V.ref) ≠ .lst [.ref l, .int i, .int j, .int s] := fun z => by
  have z2 : ls.map V.ref = [.ref l, .int i, .int j, .int s] := by injection z
  match ls, z2 with
  | [], z2 => cases z2
  | [_], z2 => cases z2
  | _ :: _ :: _, z2 =>
    have z3 := (List.cons.inj (List.cons.inj z2).2).1
    cases z3
theorem no_row (row : List Nat) (l : Addr) (i j s : Int) : HO.lst (rowV row) ≠ .lst [.ref l, .int i, .int j, .int s] := fun z => by
  have z2 : rowV row = [.ref l, .int i, .int j, .int s] := by injection z
  match row, z2 with
  | [], z2 => cases z2
  | _ :: _, z2 =>
    have z3 := (List.cons.inj z2).1
    cases z3
theorem no_nums (row : List Int) (l : Addr) (i j s : Int) : HO.lst (row.map V.int) ≠ .lst [.ref l, .int i, .int j, .int s] := fun z => by
  have z2 : row.map V.int = [.ref l, .int i, .int j, .int s] := by injection z
  match row, z2 with
  | [], z2 => cases z2
  | _ :: _, z2 =>
    have z3 := (List.cons.inj z2).1
    cases z3
theorem no_tup (xs : List V) (l : Addr) (i j s : Int) : HO.tup xs ≠ .lst [.ref l, .int i, .int j, .int s] := fun z => by cases z
section
variable {K : PySem.W.Frag} {C : Addr} {H H' : Hp} {b l m D : Addr} {ns : List Int} {x : Str} {rows : List (List Nat)}
theorem mod_exB (h : Mod H m x rows) (B : Bag H b l ns) (e : ExB b H H') : Mod H' m x rows := by
  obtain ⟨L, ls, h1, h2, h3, h4⟩ := h
  exact ⟨L, ls, e _ _ (bag_ne B h1 (no_tup _ l)) h1, e _ _ (bag_ne B h2 (no_rows _ l)) h2, h3, fun i a row q1 q2 => e _ _ (bag_ne B (h4 i a row q1 q2) (no_row _ l)) (h4 i a row q1 q2)⟩
theorem rd_exB {o : HO} {c : Addr} (h : Rd H c o) (no : ∀ i j s : Int, o ≠ .lst [.ref l, .int i, .int j, .int s]) (B : Bag H b l ns) (e : ExB b H H') : Rd H' c o := by
  rcases h with h | ⟨u, h⟩
  · exact .inl (e _ _ (bag_ne B h no) h)
  · exact .inr ⟨u, e _ _ (bag_ne B h (fun _ _ _ z => by cases z)) h⟩
theorem sqt_exB {c : Addr} {xs : List V} (h : SqT K H c xs) (B : Bag H b l ns) (e : ExB b H H') : SqT K H' c xs := h.imp (fun r => rd_exB r (no_tup _ l) B e) id
theorem ism_exB {s : Addr} (h : IsM K C H s x rows) (B : Bag H b l ns) (e : ExB b H H') : IsM K C H' s x rows := by
  obtain ⟨dx, r, d, hs, ⟨bs, hB, bl, hR⟩, hd⟩ := h
  exact ⟨dx, r, d, e _ _ (bag_ne B hs (fun _ _ _ z => by cases z)) hs, ⟨bs, sqt_exB hB B e, bl, fun i b row h1 h2 => sqt_exB (hR i b row h1 h2) B e⟩, e _ _ (bag_ne B hd (fun _ _ _ z => by cases z)) hd⟩
theorem no_ints (zs : List Int) (l : Addr) (i j s : Int) : HO.lst (intV zs) ≠ .lst [.ref l, .int i, .int j, .int s] := no_nums zs l i j s
theorem ints_exB {p : Addr} {zs : List Int} (h : H p = some (.lst (intV zs))) (B : Bag H b l ns) (e : ExB b H H') : H' p = some (.lst (intV zs)) := e _ _ (bag_ne B h (no_ints _ l)) h
theorem bag_put {p : Addr} {o : HO} (B : Bag H b l ns) (nb : p ≠ b) (nl : p ≠ l) : Bag (upd H p o) b l ns := by
  obtain ⟨q1, q2, q3, i', j', s', q4, q5⟩ := B
  exact ⟨q1, by rw [upd_ne nl.symm]; exact q2, q3, i', j', s', by rw [upd_ne nb.symm]; exact q4, q5⟩
theorem exB_put {p : Addr} {o : HO} (e : ExB b H H') (h : H p = none) : ExB b H (upd H' p o) := fun c oc nc hc => by
  rw [upd_ne (ne_of_none hc h)]
  exact e c oc nc hc
end
end K03

-- base: law_k19_quotients
/-! a text drawn -/
namespace K03
open PySem L2 Evl OxK
def spTxt : Sp := fun vs H Q _ => ∃ (b l : Addr) (ns : List Int) (x : Str) (n : Nat), vs = [.ref b, .str x, .int (n : Int)] ∧ x ∈ five5 ∧ n ≤ 20 ∧ Bag H b l ns ∧ ∀ (wd : Str) H', WordOk x wd → wd.length ≤ n → Bag H' b l ns → ExB b H H' → Q (.str wd) H'
def one1 (c : Nat) : Str := ⟨#[c]⟩
theorem join_one : ∀ cs : List Nat, sg (Txt.join "" (cs.map one1)) = cs := by
  intro cs
  rw [TL.join_eq]
  induction cs with
  | nil => rfl
  | cons c r ih =>
    cases r with
    | nil => rfl
    | cons d r =>
      have z : sg (Str.join "" ((c :: d :: r).map one1)) = c :: sg (Str.join "" ((d :: r).map one1)) := by
        show (((one1 c ++ ("" : Str)) ++ Str.join "" ((d :: r).map one1)).cps).toList = _
        show (((one1 c).cps ++ ("" : Str).cps) ++ (Str.join "" ((d :: r).map one1)).cps).toList = _
        rw [Array.toList_append, Array.toList_append]
        rfl
      rw [z, ih]
theorem sum_one : ∀ cs : List Nat, ((cs.map one1).map (·.length)).sum = cs.length
  | [] => rfl
  | c :: r => by
    have ih := sum_one r
    show 1 + ((r.map one1).map (·.length)).sum = r.length + 1
    omega
section
variable {P : Program} {w : World} {K : PySem.W.Frag} {mg : Str → Option Value} {base : Heap} {f : Addr} {fd : FuncData}
theorem scTxt : FnScope ["_law_bag_here", "_law_signs_here", "_law_most", "_law_k"] ["_law_bag_here", "_law_signs_here", "_law_most"] (defScope sTxt) := ⟨rfl, rfl, rfl, by decide +kernel, rfl, by decide +kernel, by decide +kernel⟩
theorem ok_txt {fP fO : Addr} {fdP fdO : FuncData} (F : FnP K "_law_text" sTxt f fd) (gR : mg "range" = none) (GP : FnOk P w K mg base CX0 1 fP fdP ["_law_bag_here", "_law_amount"] spPull) (gP : mg "_law_pull" = some (.ref fP)) (kP : PySem.W.keepIn K (.ref fP) = true) (bP : Binds K fdP ["_law_bag_here", "_law_amount"] [])
    (GO : FnOk P w K mg base CX0 2 fO fdO ["_law_bag_here", "_law_things"] spOfS) (gO : mg "_law_of" = some (.ref fO)) (kO : PySem.W.keepIn K (.ref fO) = true) (bO : Binds K fdO ["_law_bag_here", "_law_things"] []) :
    FnOk P w K mg base CX0 3 f fd ["_law_bag_here", "_law_signs_here", "_law_most"] spTxt := by
  refine F.ok scTxt (fun vs H Q E h => ?_) (fun cdv A outer s H vs Q E hr h => ?_)
  · obtain ⟨b, l, ns, x, n, rfl, _⟩ := h
    rfl
  · obtain ⟨b, l, ns, x, n, rfl, x5, n20, hB, k⟩ := h
    refine ⟨_, PSs.nox (pss_one (ps_ret (pe_join pe_str (pe_lc (own := [("_law_k", 3)]) (g := (gName 3)) (tt := tYes) (by rfl) scTxt.nd (pi_range1 (by rfl) gR (pa_cons (pe_call GP (hr.mono (by decide)) rfl gP kP bP .nil pass0 (pa_cons (pv 0) (pa_cons (pe_op op_add (pv 2) pe_int) pa_nil))) pa_nil)) (blkOk_by (own := [("_law_k", 3)]) (N := ["_law_bag_here", "_law_signs_here", "_law_most", "_law_k"]) (sc := defScope sTxt) (by decide +kernel)) (fun _ _ _ _ _ => pg_name (i := 3) scTxt.nd rfl (Or.inl rfl)) (fun _ _ _ _ _ => pts_nil) (fun _ _ _ _ _ => (pe_call GO (hr.mono (by decide)) rfl gO kO bO .nil pass0 (pa_cons (pv 0) (pa_cons (pv 1) pa_nil)))))))), ?_⟩
    refine ⟨⟨_, rfl⟩, _, rfl, _, rfl, (n : Int), 1, rfl, rfl, b, l, ns, (n : Int) + 1, rfl, by omega, by omega, hB, fun r H1 r0 r1 B1 h1 => ?_⟩
    obtain ⟨m, rfl⟩ : ∃ m : Nat, r = (m : Int) := ⟨r.toNat, by omega⟩
    have m20 : m ≤ 20 := by omega
    refine ⟨(m : Int), rfl, (by show -(2 ^ 62 : Int) ≤ (m : Int); omega), (by show (m : Int) < 2 ^ 62; omega), fun D hD => ?_⟩
    have Db : D ≠ b := by
      obtain ⟨_, _, _, i, j, s, hb, _⟩ := B1
      exact (ne_of_none hb hD).symm
    have Dl : D ≠ l := by
      obtain ⟨_, hl, _⟩ := B1
      exact (ne_of_none hl hD).symm
    have xl : x.length = (sg x).length := by simp [Str.length, sg]
    have x1 := (alpha5 x x5).one
    have x3 := (alpha5 x x5).three
    refine lc_any (J := Itr 0 (m : Int).toNat) (n := m) (fun i H' => Bag H' b l ns ∧ ExB b H1 H' ∧ ∃ cs : List Nat, cs.length = i ∧ (∀ c ∈ cs, c ∈ sg x) ∧ H' D = some (.lst ((cs.map one1).map V.str)))
      ⟨bag_ex B1 (Ex.new hD), Ex.exB (Ex.new hD), [], rfl, fun _ h => (by cases h), upd_same⟩ (fun i H' hi _ => (show i < (m : Int).toNat by omega)) (fun H' _ => (show (m : Int).toNat ≤ m by omega)) ?_ ?_
    · rintro i H4 y H5 hi ⟨B4, e4, cs, cl, cm, hDc⟩ ⟨rfl, rfl⟩
      refine ⟨rfl, tt_yes ?_⟩
      refine ⟨_, rfl, _, rfl, b, l, ns, x, rfl, by omega, by omega, B4, fun kk c H6 hk B6 h6 => ?_⟩
      refine ⟨_, by rw [h6 D Db]; exact hDc, sz_lt (by simp; omega), bag_put B6 Db Dl, exB_put (e4.trans (But.exB h6)) hD, cs ++ [c], by simp [cl], fun a ha => ?_, by rw [upd_same]; simp [one1]⟩
      rcases List.mem_append.mp ha with h | h
      · exact cm a h
      · rw [List.mem_singleton.mp h]
        exact List.mem_of_getElem? hk
    · rintro H4 ⟨B4, e4, cs, cl, cm, hDc⟩
      have jl := join_one cs
      have sm := sum_one cs
      have z0 : (Txt.join "" (cs.map one1)).length = (sg (Txt.join "" (cs.map one1))).length := by simp [Str.length, sg]
      refine ⟨"", D, cs.map one1, rfl, rfl, .inl (SqL.of hDc), ?_, k _ H4 ⟨fun c hc => cm c (by rw [jl] at hc; exact hc), ?_⟩ (by rw [z0, jl, cl]; omega) B4 ((But.exB h1).trans e4)⟩
      · rw [sm]
        show cs.length + (cs.map one1).length * 0 ≤ _
        omega
      · have z : (Txt.join "" (cs.map one1)).length = (sg (Txt.join "" (cs.map one1))).length := by simp [Str.length, sg]
        rw [z, jl]
        omega
end
end K03

-- base: law_k04_whole_standard_forms
/-! where the law's own table leads -/
namespace K03
open PySem L2 Evl OxK
def spLd : Sp := fun vs H Q _ => ∃ (m : Addr) (x wd : Str) (rows : List (List Nat)) (st : Nat), vs = [.ref m, .int (st : Int), .str wd] ∧ Mod H m x rows ∧ x ∈ five5 ∧ RowsOk x rows ∧ WordOk x wd ∧ st < rows.length ∧ ∀ H', Ex H H' → Q (.int (wlk x rows st (sg wd) : Int)) H'
section
variable {P : Program} {w : World} {K : PySem.W.Frag} {mg : Str → Option Value} {base : Heap} {f : Addr} {fd : FuncData}
theorem scLd : FnScope ["_law_model", "_law_state_z", "_law_word_z", "_law_sign"] ["_law_model", "_law_state_z", "_law_word_z"] (defScope sLd) := ⟨rfl, rfl, rfl, by decide +kernel, rfl, by decide +kernel, by decide +kernel⟩
theorem ok_ld {fG : Addr} {fdG : FuncData} (F : FnP K "_law_led" sLd f fd) (FG : FnP K "_law_goal" sLg fG fdG) (gG : mg "_law_goal" = some (.ref fG)) :
    FnOk P w K mg base CX0 2 f fd ["_law_model", "_law_state_z", "_law_word_z"] spLd := by
  have GG : FnOk P w K mg base CX0 1 fG fdG ["_law_model", "_law_state_z", "_law_sign"] spLg := ok_lg FG
  have bG : Binds K fdG ["_law_model", "_law_state_z", "_law_sign"] [] := FG.bindsN fun _ _ _ _ _ _ us hl => match us, hl with | [_, _, _], _ => rfl
  refine F.ok scLd (fun vs H Q E h => ?_) (fun cdv A outer s H vs Q E hr h => ?_)
  · obtain ⟨m, x, wd, rows, st, rfl, _⟩ := h
    rfl
  · obtain ⟨m, x, wd, rows, st, rfl, mo, x5, ro, wo, lt, k⟩ := h
    refine ⟨_, PSs.nox (pss_cons (ps_for PassesOwn.never rfl (pi_str (pv 2)) (pg_name (i := 3) scLd.nd rfl (Or.inl rfl)) (pss_one (ps_set (i := 1) scLd.nd rfl (Or.inl rfl) (pe_call GG hr rfl gG FG.kp bG .nil pass0 (pa_cons (pv 0) (pa_cons (pv 1) (pa_cons (pv 3) pa_nil)))))))
      (pss_one (ps_ret (pv 1)))), ?_⟩
    refine ⟨_, rfl, wd, rfl, ?_⟩
    refine for_wk (wk_str (z := wd) (H0 := H)) (fun i σ' H' => Ex H H' ∧ ∃ u, σ' = [some (.ref m), some (.int ((wlk x rows st ((sg wd).take i) : Nat) : Int)), some (.str wd), u]) ⟨Ex.refl H, none, rfl⟩ (fun i σ' H' p => p.1) ?_ ?_
    · rintro i y σ' H1 H2 hi ⟨rfl, c, hc, rfl⟩ ⟨e1, u, rfl⟩
      have cm := wo.of c (List.mem_of_getElem? hc)
      have lt2 := wlk_lt ro ((sg wd).take i) st (fun a ha => wo.of a (List.mem_of_mem_take ha)) lt
      obtain ⟨row, hrow⟩ : ∃ row, rows[wlk x rows st ((sg wd).take i)]? = some row := ⟨_, List.getElem?_eq_getElem lt2⟩
      have hl : ixO c (sg x) < row.length := by rw [ro.wide _ (List.mem_of_getElem? hrow)]; exact ixO_lt cm
      refine ⟨_, rfl, _, rfl, _, rfl, m, x, rows, _, ixO c (sg x), c, row, row.getD (ixO c (sg x)) 0, rfl, mod_ex mo e1, x5, (ixO_spec cm).1, hrow, ?_, fun H3 e3 => ?_⟩
      · rw [List.getD_eq_getElem?_getD, List.getElem?_eq_getElem hl]
        rfl
      refine ⟨e1.trans e3, some (.str ⟨#[c]⟩), ?_⟩
      have z : (sg wd).take (i + 1) = (sg wd).take i ++ [c] := by rw [List.take_add_one, hc]; rfl
      have rr : rows.getD (wlk x rows st ((sg wd).take i)) [] = row := by
        rw [List.getD_eq_getElem?_getD, hrow]
        rfl
      rw [z, wlk_snoc, rr]
      rfl
    · rintro σ' H1 ⟨e1, u, rfl⟩
      refine ⟨_, rfl, ?_⟩
      rw [List.take_length]
      exact k H1 e1
end
end K03

/-! the law's own words -/
namespace K03
open PySem L2 Evl OxK
def spLw : Sp := fun vs H Q _ => ∃ (m : Addr) (x : Str) (rows : List (List Nat)), vs = [.ref m] ∧ Mod H m x rows ∧ x ∈ five5 ∧ RowsOk x rows ∧ ∀ H' d, H d = none → Ex H H' → H' d = some (.dK (dkv (roads x rows))) → Q (.ref d) H'
section
variable {P : Program} {w : World} {K : PySem.W.Frag} {mg : Str → Option Value} {base : Heap} {f : Addr} {fd : FuncData}
theorem scLw : FnScope ["_law_model", "_law_found", "_law_line", "_law_at", "_law_sign", "_law_goal_here"] ["_law_model"] (defScope sLw) := ⟨rfl, rfl, rfl, by decide +kernel, rfl, by decide +kernel, by decide +kernel⟩
theorem ok_lw {fG : Addr} {fdG : FuncData} (F : FnP K "_law_words_of" sLw f fd) (FG : FnP K "_law_goal" sLg fG fdG) (gG : mg "_law_goal" = some (.ref fG)) (T : NoS mg) : FnOk P w K mg base CX0 2 f fd ["_law_model"] spLw := by
  have GG : FnOk P w K mg base CX0 1 fG fdG ["_law_model", "_law_state_z", "_law_sign"] spLg := ok_lg FG
  have bG : Binds K fdG ["_law_model", "_law_state_z", "_law_sign"] [] := FG.bindsN fun _ _ _ _ _ _ us hl => match us, hl with | [_, _, _], _ => rfl
  refine F.ok scLw (fun vs H Q E h => ?_) (fun cdv A outer s H vs Q E hr h => ?_)
  · obtain ⟨m, x, rows, rfl, _⟩ := h
    rfl
  · obtain ⟨m0, x, rows, rfl, mo, x5, ro, k⟩ := h
    have hu := Nat.lt_of_le_of_lt (Nat.add_le_add_left (show 1 ≤ 64 by decide) _) hr.units
    refine ⟨_, PSs.nox (pss_cons (ps_par3 (i := 1) (j := 2) (l := 3) rfl scLw.nd rfl rfl rfl (by decide) (by decide) (by decide) rfl rfl rfl (pa_cons (pe_disp (pps_cons pe_int pe_str pps_nil) rfl rfl (by decide) (by decide)) (pa_cons (pe_lst (pa_cons pe_int pa_nil)) (pa_cons pe_int pa_nil))) rfl)
      (pss_cons (ps_while PassesOwn.never (pt_cmpR op_lt (pv 3) (pe_callB call_len_seq (by rfl) T.len PySem.boot_len (pa_cons (pv 2) pa_nil)) (nomark _))
        (pss_cons (ps_for PassesOwn.never rfl (pi_str (pe_ix ix_tup (pv 0) pe_int (fun _ _ => rfl))) (pg_name (i := 4) scLw.nd rfl (Or.inl rfl))
          (pss_cons (ps_set (i := 5) scLw.nd rfl (Or.inl rfl) (pe_call GG hr rfl gG FG.kp bG .nil pass0 (pa_cons (pv 0) (pa_cons (pe_ix ix_list (pv 2) (pv 3) (fun _ _ => rfl)) (pa_cons (pv 4) pa_nil)))))
          (pss_one (ps_if (pt_cmp (pc_dnotin hu (pv 5) (pv 1)))
            (pss_cons (ps_dput hu (pv 1) (pv 5) (pe_op op_add_str (pe_dget hu (pv 1) (pe_ix ix_list (pv 2) (pv 3) (fun _ _ => rfl)) (fun _ _ => rfl)) (pv 4)) rfl)
            (pss_one (ps_expr (pe_bm PySem.F.plainAttrs_list PySem.F.slot_list_append PySem.F.type_list_append mt_append (pv 2) (pa_cons (pv 5) pa_nil))))) pss_nil))))
        (pss_one (ps_set (i := 3) scLw.nd rfl (Or.inl rfl) (pe_op op_add (pv 3) pe_int)))))
      (pss_one (ps_ret (pv 1))))), ?_⟩
    have hlen : x.cps.size = (sg x).length := by simp [sg]
    have ax := alpha5 x x5
    have three := ax.three
    have n24 := ro.most
    refine fun d hd => ⟨upd_same, [(.inl 0, .str ⟨#[]⟩)], rfl, by decide, ?_⟩
    refine ⟨(by show 1 ≤ sizeLine; decide), fun o ho => ⟨_, _, _, rfl, ?_⟩⟩
    have hd1 : upd (upd H d (.dK [])) d (.dK (mergeK [] [(.inl 0, .str ⟨#[]⟩)])) = upd (upd H d (.dK [])) d (.dK (dkv [(0, ⟨#[]⟩)])) := rfl
    rw [hd1] at ho ⊢
    have ne : o ≠ d := by
      intro z
      rw [z, upd_same] at ho
      cases ho
    have hO : H o = none := by
      rw [upd_ne ne, upd_ne ne] at ho
      exact ho
    have eB : Ex H (upd (upd H d (.dK [])) d (.dK (dkv [(0, ⟨#[]⟩)]))) := Ex.mut (Ex.new hd) hd
    let Iv : List (Nat × Str) → Hp → Prop := fun kvs H' => BOk rows.length kvs ∧ H' d = some (.dK (dkv kvs)) ∧ H' o = some (.lst (keysV kvs)) ∧ Ex H H'
    refine s_while (W := fun m σ' H' => ∃ (kvs : List (Nat × Str)) (dn : Nat) (u6 u7 : Option V), σ' = [some (.ref m0), some (.ref d), some (.ref o), some (.int (dn : Int)), u6, u7] ∧ Iv kvs H' ∧ m = rows.length + 1 - dn ∧ bfs x rows m dn kvs = roads x rows)
      (rows.length + 1) ?_ ?_
    · refine ⟨[(0, ⟨#[]⟩)], 0, none, none, rfl, ⟨⟨by simp, fun p hp => ?_, fun p hp => ?_⟩, ?_, upd_same, Ex.mut eB hO⟩, rfl, rfl⟩
      · simp at hp; subst hp; exact ro.one
      · simp at hp; subst hp; exact Nat.zero_lt_one
      · rw [upd_ne (Ne.symm ne), upd_same]
    rintro m σ' H' ⟨kvs, dn, u6, u7, rfl, ⟨bk, hD, hL, eH⟩, rfl, hb⟩
    have few := bk.few
    have kl : (keysV kvs).length = kvs.length := by simp [keysV]
    refine ⟨decide ((dn : Int) < ((keysV kvs).length : Int)), ?_, fun lt H1 e1 => ?_, fun ge H1 e1 => ?_⟩
    · intro H1 e1 Q1 q1
      exact ⟨_, rfl, _, rfl, o, keysV kvs, rfl, .inl (SqL.of (e1 _ _ hL)), _, _, rfl, rfl, _, rfl, q1 H1 (Ex.refl H1)⟩
    · have ldn : dn < kvs.length := by
        have z := of_decide_eq_true lt
        rw [kl] at z
        omega
      obtain ⟨⟨st, w⟩, hst⟩ : ∃ p, kvs[dn]? = some p := ⟨_, List.getElem?_eq_getElem ldn⟩
      have mem0 : (st, w) ∈ kvs := List.mem_of_getElem? hst
      have stn : st < rows.length := bk.lt _ mem0
      obtain ⟨row, hrow⟩ : ∃ p, rows[st]? = some p := ⟨_, List.getElem?_eq_getElem stn⟩
      have rmem : row ∈ rows := List.mem_of_getElem? hrow
      have wide := ro.wide row rmem
      refine ⟨fun σ2 H2 => ∃ (kvs2 : List (Nat × Str)) (u6 u7 : Option V), σ2 = [some (.ref m0), some (.ref d), some (.ref o), some (.int ((dn + 1 : Nat) : Int)), u6, u7] ∧ Iv kvs2 H2 ∧ kvs2 = vis w ((sg x).zip row) kvs, ?_, ?_⟩
      · rintro σ2 H2 ⟨kvs2, u6, u7, rfl, iv2, rfl⟩
        refine ⟨rows.length + 1 - (dn + 1), by omega, _, dn + 1, u6, u7, rfl, iv2, rfl, ?_⟩
        rw [← hb]
        have z : rows.length + 1 - dn = (rows.length + 1 - (dn + 1)) + 1 := by omega
        rw [z]
        show _ = (match kvs[dn]? with | none => kvs | some (s, w) => bfs x rows (rows.length + 1 - (dn + 1)) (dn + 1) (vis w ((sg x).zip (rows.getD s [])) kvs))
        rw [hst]
        show _ = bfs x rows (rows.length + 1 - (dn + 1)) (dn + 1) (vis w ((sg x).zip (rows.getD st [])) kvs)
        rw [List.getD_eq_getElem?_getD, hrow]
        rfl
      have eH1 := eH.trans e1
      obtain ⟨L0, ls0, hm0, _, _, _⟩ := id mo
      refine ⟨_, rfl, m0, _, 0, _, rfl, rfl, SqT.of (eH1 _ _ hm0), rfl, x, rfl, ?_⟩
      let W' : Nat → Nat → L2.St → Hp → Prop := fun i m σ2 H2 => ∃ (kvs2 : List (Nat × Str)) (u6 u7 : Option V), σ2 = [some (.ref m0), some (.ref d), some (.ref o), some (.int (dn : Int)), u6, u7] ∧ Iv kvs2 H2 ∧ kvs2[dn]? = some (st, w) ∧ i ≤ (sg x).length ∧ m = (sg x).length - i ∧ vis w (((sg x).zip row).drop i) kvs2 = vis w ((sg x).zip row) kvs
      have zl : ((sg x).zip row).length = (sg x).length := by rw [List.length_zip, wide, Nat.min_self]
      refine ⟨W', ⟨(sg x).length, kvs, u6, u7, rfl, ⟨bk, e1 _ _ hD, e1 _ _ hL, eH1⟩, hst, Nat.zero_le _, by omega, rfl⟩, ?_⟩
      rintro i m σ2 H2 ⟨kvs2, v6, v7, rfl, ⟨bk2, hD2, hL2, eH2⟩, hst2, hi, rfl, hv⟩
      have mem2 : (st, w) ∈ kvs2 := List.mem_of_getElem? hst2
      have hkey2 : (keysV kvs2)[dn]? = some (V.int (st : Int)) := by
        show (kvs2.map fun p => V.int (p.1 : Int))[dn]? = _
        rw [List.getElem?_map, hst2]
        rfl
      by_cases hend : i = (sg x).length
      · refine .inl ⟨(by show x.cps.size ≤ i; omega), ?_⟩
        refine ⟨_, rfl, _, _, rfl, rfl, ?_⟩
        refine ⟨kvs2, v6, v7, rfl, ⟨bk2, hD2, hL2, eH2⟩, ?_⟩
        rw [List.drop_of_length_le (by omega)] at hv
        exact hv
      refine .inr ⟨(by show i < x.cps.size; omega), W' (i + 1) ((sg x).length - (i + 1)), fun σ3 H3 h3 => ⟨_, by omega, h3⟩, ?_⟩
      rintro y H3 ⟨rfl, ca, ha, rfl⟩
      have h1 : (sg x)[i]? = some ca := by simpa [sg] using ha
      have hgi : i < row.length := by omega
      obtain ⟨g, hg⟩ : ∃ g, row[i]? = some g := ⟨_, List.getElem?_eq_getElem hgi⟩
      have gl : g < rows.length := ro.lt row rmem g (List.mem_of_getElem? hg)
      have hz : ((sg x).zip row)[i]? = some (ca, g) := by rw [List.getElem?_zip_eq_some]; exact ⟨h1, hg⟩
      obtain ⟨hzl, hze⟩ := List.getElem?_eq_some_iff.mp hz
      rw [List.drop_eq_getElem_cons hzl, hze] at hv
      have few2 := bk2.few
      have wd2 : w.length < kvs2.length := bk2.wd _ mem2
      refine ⟨_, rfl, _, rfl, _, rfl, o, keysV kvs2, (dn : Int), _, rfl, rfl, SqL.of hL2, atI_nat hkey2, _, rfl, m0, x, rows, st, i, ca, row, g, rfl, mod_ex mo eH2, x5, h1, hrow, hg, fun H9 eT => ?_⟩
      dsimp only [List.set, gName]
      refine s_if (b := !(kvs2.any fun p => p.1 == g)) ?_ (fun hnew H4 e4 => ?_) (fun hold H4 e4 => ?_)
      · intro H4 e4 Q4 q4
        refine ⟨_, rfl, _, rfl, d, valV (dkv kvs2) (.inl (g : Int)), rfl, DGet.k (k := .inl (g : Int)) (e4 _ _ (eT _ _ hD2)), ?_⟩
        rw [dkv_some]
        exact ⟨_, rfl, q4 H4 (Ex.refl H4)⟩
      · have new : (kvs2.any fun p => p.1 == g) = false := by
          cases z : kvs2.any fun p => p.1 == g with
          | false => rfl
          | true => rw [z] at hnew; cases hnew
        have hD4 := e4 _ _ (eT _ _ hD2)
        have hL4 := e4 _ _ (eT _ _ hL2)
        have hget : DGet H4 d (.int (st : Int)) (some (.str w)) := by
          have z := DGet.k (k := .inl (st : Int)) hD4
          rw [dkv_val bk2.nod mem2] at z
          exact z
        have dl : (dkv kvs2).length = kvs2.length := by simp [dkv]
        have kl2 : (keysV kvs2).length = kvs2.length := by simp [keysV]
        refine ⟨_, rfl, _, rfl, _, rfl, o, keysV kvs2, (dn : Int), _, rfl, rfl, SqL.of hL4, atI_nat hkey2, d, .str w, rfl, hget, _, rfl, w, ⟨#[ca]⟩, rfl, rfl, ?_, _, rfl, _, rfl, d, _, rfl, .inl ⟨_, .inl (g : Int), hD4, rfl, small1000 (by omega), rfl⟩, ?_⟩
        · have z : (⟨#[ca]⟩ : Str).length = 1 := rfl
          rw [z]
          exact Nat.le_of_lt (small1000 (by omega))
        refine s_app (l := o) (xs := keysV kvs2) (v := .int (g : Int)) (by rw [upd_ne ne]; exact hL4) (ev_var rfl) (ev_var rfl) (by omega) fun H5 e5 => ?_
        refine ⟨kvs2 ++ [(g, w ++ ⟨#[ca]⟩)], some (.str ⟨#[ca]⟩), some (.int (g : Int)), rfl, ⟨bk2.put mem2 gl new, ?_, ?_, ?_⟩, (by rw [List.getElem?_append_left (List.getElem?_eq_some_iff.mp hst2).1]; exact hst2), by omega, rfl, ?_⟩
        · rw [upd_ne (Ne.symm ne)]
          refine e5 _ _ ?_
          rw [upd_same, dkv_put new]
        · rw [upd_same]
          simp [keysV]
        · exact Ex.mut ((Ex.mut ((eH2.trans eT).trans e4) hd).trans e5) hO
        · rw [← hv]
          show _ = vis w _ (if kvs2.any (fun p => p.1 == g) then kvs2 else kvs2 ++ [(g, w ++ ⟨#[ca]⟩)])
          rw [new]
          rfl
      · have old : (kvs2.any fun p => p.1 == g) = true := by
          cases z : kvs2.any fun p => p.1 == g with
          | true => rfl
          | false => rw [z] at hold; cases hold
        refine ⟨kvs2, some (.str ⟨#[ca]⟩), some (.int (g : Int)), rfl, ⟨bk2, e4 _ _ (eT _ _ hD2), e4 _ _ (eT _ _ hL2), (eH2.trans eT).trans e4⟩, hst2, by omega, rfl, ?_⟩
        rw [← hv]
        show _ = vis w _ (if kvs2.any (fun p => p.1 == g) then kvs2 else kvs2 ++ [(g, w ++ ⟨#[ca]⟩)])
        rw [old]
        rfl
    · have gdn : kvs.length ≤ dn := by
        have z := of_decide_eq_false ge
        rw [kl] at z
        omega
      have hr2 : kvs = roads x rows := by
        rw [← hb]
        cases rows.length + 1 - dn with
        | zero => rfl
        | succ q =>
          show kvs = (match kvs[dn]? with | none => kvs | some (s, w) => bfs x rows q (dn + 1) (vis w ((sg x).zip (rows.getD s [])) kvs))
          rw [List.getElem?_eq_none gdn]
      refine ⟨_, rfl, k H1 d hd (eH.trans e1) ?_⟩
      rw [← hr2]
      exact e1 _ _ hD
end
end K03

/-! a method called with keywords -/
namespace L2
open PySem PySem.Spec PyProof.Rows
/-- o.m(e, .., k=..): n counts self and the positional arguments -/
def tMethN (C : Addr) (m : Str) (n k : Nat) (sp : Sp) (gV : List V → List V → List V) (E : XK) (ta : TE) (t tk : TA) : TE := fun σ H Q => ta σ H fun x H1 => ∃ a dx fs, x = .ref a ∧ H1 a = some (.ins C dx fs) ∧ fs.lookup m = none ∧
  t σ H1 fun vs H2 => tk σ H2 fun zs H3 => (x :: vs).length = n ∧ zs.length = k ∧ sp (gV (x :: vs) zs) H3 Q E
section
variable {X : Cx} {CX : CXT} {k n : Nat} {f C : Addr} {fd : FuncData} {ps ks : List Str} {sp : Sp} {E : XK} {m : Str} {apos pos : Pos} {o e : Expr} {es : List Expr} {kws : List Keyword} {ta : TE} {t tk : TA} {g : List Value → List Value → List Value} {gV : List V → List V → List V}
theorem pe_methN {pl : Sem Bool} (he : PE X o ta) (c : Cls X.K C) (hm : Meth X.K C m f) (F : FnOk X.prog X.w X.K X.mg X.base CX k f fd ps sp) (hr : Room k X.A) (hb : KBn X.K fd ps n ks g gV) (hx : Passes CX X E) (ha : PA X (e :: es) t) (hkw : PK X kws tk)
    (hall : (backToKw pos (keywordEach kws X.env)).all (·.1.isSome) = true := by rfl) (hks : (backToKw pos (keywordEach kws X.env)).filterMap (·.1) = ks := by rfl)
    (hst : starEach (e :: es) X.env = (false, eval e X.env) :: starEach es X.env := by rfl) (hpl : ((backTo pos (starEach (e :: es) X.env)).any (·.1) || (backToKw pos (keywordEach kws X.env)).any (·.1.isNone)) = false := by rfl)
    (ht : eval (.Call (.Attribute o m apos) (e :: es) kws pos) X.env = (do
      let ov ← eval o X.env
      standAt apos.atName
      let (f, first) ← holding [ov] (getMethod ov m pl)
      callWith pos f first (backTo pos (starEach (e :: es) X.env)) (backToKw pos (keywordEach kws X.env))) := by rfl) :
    PE X (.Call (.Attribute o m apos) (e :: es) kws pos) (tMethN C m n ks.length sp gV E ta t tk) := by
  refine ⟨fun pins s σ H Q I h => ?_⟩
  refine PySem.W.methodCall_KW (pl := pl) (thn (he.run pins s σ H _ I h) fun u s1 ⟨x, H1, I1, rx, a, dx, fs, ex, ea, l, q⟩ => ?_) ht
  subst ex
  obtain rfl : u = Value.ref a := rx
  refine getmeth_ok I1 ea c hm l ?_
  refine PySem.W.callWith_KW (first := [.ref a]) (h₀ := X.base) I.ok.mod.kin hm.kp hall (thn (ha.run pos pins s1 σ H1 _ I1 q) fun us s2 ⟨vs, H2, I2, r, q2⟩ => ?_) hpl hst
  refine thn (hkw.run pos pins s2 σ H2 _ I2 q2) fun ws s3 ⟨zs, H3, I3, rz, l1, l2, q3⟩ => ⟨I3.kIn, ?_⟩
  rw [hks]
  exact run_fnN (us := .ref a :: us) (vs := .ref a :: vs) F hr hb hx I3 (.cons rfl r) rz l1 l2 q3
theorem pe_methN0 {pl : Sem Bool} (he : PE X o ta) (c : Cls X.K C) (hm : Meth X.K C m f) (F : FnOk X.prog X.w X.K X.mg X.base CX k f fd ps sp) (hr : Room k X.A) (hb : KBn X.K fd ps n ks g gV) (hx : Passes CX X E) (hkw : PK X kws tk)
    (hall : (backToKw pos (keywordEach kws X.env)).all (·.1.isSome) = true := by rfl) (hks : (backToKw pos (keywordEach kws X.env)).filterMap (·.1) = ks := by rfl)
    (hpl : ((backTo pos (starEach [] X.env)).any (·.1) || (backToKw pos (keywordEach kws X.env)).any (·.1.isNone)) = false := by rfl)
    (ht : eval (.Call (.Attribute o m apos) [] kws pos) X.env = (do
      let ov ← eval o X.env
      standAt apos.atName
      let (f, first) ← holding [ov] (getMethod ov m pl)
      callWith pos f first (backTo pos (starEach [] X.env)) (backToKw pos (keywordEach kws X.env))) := by rfl) :
    PE X (.Call (.Attribute o m apos) [] kws pos) (tMethN C m n ks.length sp gV E ta tNil tk) := by
  refine ⟨fun pins s σ H Q I h => ?_⟩
  refine PySem.W.methodCall_KW (pl := pl) (thn (he.run pins s σ H _ I h) fun u s1 ⟨x, H1, I1, rx, a, dx, fs, ex, ea, l, q⟩ => ?_) ht
  subst ex
  obtain rfl : u = Value.ref a := rx
  refine getmeth_ok I1 ea c hm l ?_
  refine PySem.W.callWith_KW0 (first := [.ref a]) (h₀ := X.base) I.ok.mod.kin hm.kp hall ?_ hpl
  refine thn (hkw.run pos pins s1 σ H1 _ I1 q) fun ws s3 ⟨zs, H3, I3, rz, l1, l2, q3⟩ => ⟨I3.kIn, ?_⟩
  rw [hks]
  exact run_fnN (us := [.ref a]) (vs := [.ref a]) F hr hb hx I3 (.cons rfl .nil) rz l1 l2 q3
end
end L2

-- base: law_k19_quotients
/-! Machine.behind from any state -/
namespace K03
open PySem L2 Evl OxK
def spBhS (K : PySem.W.Frag) (C : Addr) : Sp := fun vs H Q _ => ∃ (s : Addr) (x w : Str) (rows : List (List Nat)) (st : Nat), vs = [.ref s, .str w, .int (st : Int)] ∧ IsM K C H s x rows ∧ x ∈ five5 ∧ RowsOk x rows ∧ WordOk x w ∧ st < rows.length ∧ ∀ H', Ex H H' → Q (.int (wlk x rows st (sg w) : Int)) H'
section
variable {P : Program} {w : World} {K : PySem.W.Frag} {mg : Str → Option Value} {base : Heap} {f : Addr} {fd : FuncData}
theorem ok_bhS {C fS fW fK : Addr} {fdS fdW fdK : FuncData} (F : FunD K "behind" "Machine.behind" (defArgs sBh) (defBody sBh) (defScope sBh) [] [("state", .int 0)] f fd) (MC : MCls K C)
    (mS : Meth K C "require_state" fS) (GS : FnOk P w K mg base CX0 3 fS fdS ["self", "state"] (spRqs K C)) (bS : Binds K fdS ["self", "state"] [])
    (mW : Meth K C "require_word" fW) (GW : FnOk P w K mg base CX0 2 fW fdW ["self", "word"] (spRqw K C)) (bW : Binds K fdW ["self", "word"] [])
    (mK : Meth K C "walk" fK) (GK : FnOk P w K mg base CX0 1 fK fdK ["self", "word", "state"] (spWk K C)) (bK : Binds K fdK ["self", "word", "state"] []) :
    FnOk P w K mg base CX0 4 f fd ["self", "word", "state"] (spBhS K C) := by
  refine F.ok scBh (fun vs H Q E h => ?_) (fun cdv A outer s H vs Q E hr h => ?_)
  · obtain ⟨s, x, wd, rows, st, rfl, _⟩ := h
    rfl
  · obtain ⟨se, x, wd, rows, st, rfl, im, x5, ro, wo, sl, k⟩ := h
    refine ⟨_, PSs.nox (pss_cons (ps_expr (pe_meth (pv 0) MC.c mS GS hr bS .nil pass0 (pa_cons (pv 2) pa_nil)))
      (pss_cons (ps_expr (pe_meth (pv 0) MC.c mW GW (hr.mono (by decide)) bW .nil pass0 (pa_cons (pv 1) pa_nil)))
      (pss_one (ps_ret (pe_meth (pv 0) MC.c mK GK (hr.mono (by decide)) bK .nil pass0 (pa_cons (pv 1) (pa_cons (pv 2) pa_nil))))))), ?_⟩
    obtain ⟨dx, r, d, hs, r1⟩ := id im
    refine ⟨_, rfl, se, dx, _, rfl, hs, rfl, _, rfl, se, x, rows, st, rfl, im, sl, fun H1 e1 => ?_⟩
    have im1 := sqt_ex im e1
    refine ⟨_, rfl, se, dx, _, rfl, e1 _ _ hs, rfl, _, rfl, se, x, wd, rows, rfl, im1, x5, wo, fun H2 e2 => ?_⟩
    have im2 := sqt_ex im1 e2
    exact ⟨_, rfl, se, dx, _, rfl, e2 _ _ (e1 _ _ hs), rfl, _, rfl, _, rfl, se, x, wd, rows, st, rfl, im2, x5, ro, wo, sl, fun H3 e3 => k H3 ((e1.trans e2).trans e3)⟩
end
end K03

-- base: law_k02_machines_refused
/-! _law_word -/
namespace K03
open PySem L2 L2H LamX LamV Evl OxK
def spWo (P : Program) (w : World) (K : PySem.W.Frag) (mg : Str → Option Value) (C1 C2 C3 : Addr) (k : Nat) (base : Heap) : Sp := fun vs H Q _ => ∃ x : Ask, vs = [.ref x.f] ∧ AskR P w K mg base k x ∧
  TAsk K C1 C2 C3 x H fun v H' => rIxT K v (.int 0) H' Q
section
variable {P : Program} {w : World} {K : PySem.W.Frag} {mg : Str → Option Value} {base : Heap} {f fF C1 C2 C3 : Addr} {fd fdF : FuncData} {k : Nat}
end
end K03

/-! _law_try and _law_word of a lambda that is written there -/
namespace K03
open PySem L2 L2H LamX LamV Evl OxK
section
variable {X : Cx} {C1 C2 C3 b l : Addr} {ns : List Int} {kk n : Nat} {σ : L2.St} {H : Hp} {T : List (Addr × Str)} {params : Arguments} {body : Expr} {scope : Scope} {te : XK → TE} {d : Dt} {tg : Str} {Q : VK}
theorem try_lam (hT : Tabs T (dl b H)) (B : Bag H b l ns) (LT : LamTold X kk params body scope te)
    (A : ∀ (H1 : Hp) (f c' : Addr) (dV : Value), ExtN (dl b H) (dl b H1) → LamAt (dl b H1) f (mkLF X params body scope c' dV) → AskEv X.K C1 C2 C3 (dl b H1) n ⟨f, mkLF X params body scope c' dV, fun E H' Q' => te E σ H' Q'⟩ d)
    (q : ∀ v H2, ExtN (dl b H) (dl b H2) → Bag H2 b l ns → Tabs T (dl b H2) → Has (dl b H2) n v d → Q v H2) : tCallB X kk (spTry X.prog X.w X.K X.mg C1 C2 C3 (kk + 1)) [] E0 (tCons (tMkLam T (mkLF X params body scope)) tNil) σ H Q :=
  ⟨hT.ext dl_ex, fun f c' dV H1 e1 n1 T1 nf a1 => fun base hL => by
    have B1 := bag_extN B e1
    exact ⟨⟨f, mkLF X params body scope c' dV, fun E H' Q' => te E σ H' Q'⟩, rfl, hL LT, (A H1 f c' dV (dl_extN e1) (at_dl B1 a1)) H1 _ dl_ex fun v H2 e2 hv => q v H2 ((dl_extN e1).trans (dl_extN (ExtN.of e2))) (bag_ex B1 e2) (tabs_dl (bag_ex B1 e2) (T1.ext e2)) (hv.ex (nw_dl (bag_some B1)))⟩⟩
/-- the answer's first item -/
def AskTag (K : PySem.W.Frag) (C1 C2 C3 : Addr) (H0 : Hp) (x : Ask) (tg : Str) : Prop := ∀ H' (Q' : VK), Ex H0 H' → (∀ p ys H'', Ex H' H'' → H'' p = some (.tup (.str tg :: ys)) → Q' (.ref p) H'') → TAsk K C1 C2 C3 x H' Q'
theorem tag_of {K : PySem.W.Frag} {H0 : Hp} {x : Ask} {ds : List Dt} (A : AskEv K C1 C2 C3 H0 (n + 1) x (.t (.f (.str tg) :: ds))) : AskTag K C1 C2 C3 H0 x tg := fun H' Q' e q => A H' Q' e fun v H'' e2 hv => by
  obtain ⟨p, vs, rfl, hp, hh, _⟩ := has_t hv
  cases vs with
  | nil => exact hh.elim
  | cons v vs =>
    have z : v = .str tg := by
      match n, hh.1 with
      | 0, h => exact (Dt.f.inj h.2).symm
      | _ + 1, .inl h => exact (Dt.f.inj h.2).symm
      | _ + 1, .inr ⟨_, _, _, _, .inl ⟨_, h⟩, _⟩ => cases h
      | _ + 1, .inr ⟨_, _, _, _, .inr ⟨_, h⟩, _⟩ => cases h
    subst z
    exact q p vs H'' e2 (nw_ex _ _ hp)
theorem tag_val {K : PySem.W.Frag} {H0 : Hp} {x : Ask} (hat : LamAt H0 x.f x.F) (h : ∀ H' (Q : VK) (E : XK), Ex H0 H' → (∀ v H'', Ex H' H'' → Q v H'') → x.t E H' Q) : AskTag K C1 C2 C3 H0 x "value" := fun H' Q' e q =>
  ⟨hat.ex e, hat.ex e, h H' _ _ e fun v H'' e' => ⟨(show 2 ≤ sizeLine by decide), fun p hp => q p [v] _ (e'.trans (Ex.new hp)) upd_same⟩⟩
theorem word_lam (hT : Tabs T (dl b H)) (B : Bag H b l ns) (LT : LamTold X kk params body scope te)
    (A : ∀ (H1 : Hp) (f c' : Addr) (dV : Value), ExtN (dl b H) (dl b H1) → LamAt (dl b H1) f (mkLF X params body scope c' dV) → AskTag X.K C1 C2 C3 (dl b H1) ⟨f, mkLF X params body scope c' dV, fun E H' Q' => te E σ H' Q'⟩ tg)
    (q : ∀ H2, ExtN (dl b H) (dl b H2) → Bag H2 b l ns → Tabs T (dl b H2) → Q (.str tg) H2) : tCallB X kk (spWo X.prog X.w X.K X.mg C1 C2 C3 (kk + 1)) [] E0 (tCons (tMkLam T (mkLF X params body scope)) tNil) σ H Q :=
  ⟨hT.ext dl_ex, fun f c' dV H1 e1 n1 T1 nf a1 => fun base hL => by
    have B1 := bag_extN B e1
    exact ⟨⟨f, mkLF X params body scope c' dV, fun E H' Q' => te E σ H' Q'⟩, rfl, hL LT, (A H1 f c' dV (dl_extN e1) (at_dl B1 a1)) H1 _ dl_ex fun p ys H2 e2 hp => ⟨p, _, 0, .str tg, rfl, rfl, SqT.of hp, atI_nat (j := 0) rfl, q H2 ((dl_extN e1).trans (dl_extN (ExtN.of e2))) (bag_ex B1 e2) (tabs_dl (bag_ex B1 e2) (T1.ext e2))⟩⟩⟩
end
end K03

/-! y = [comprehension], y a cell -/
namespace L2
open PySem PySem.Spec PyProof.Rows
theorem sw_cell {elt : Expr} {gs : List Comprehension} {scope : Scope} {pos py : Pos} {y : Str} {l : Nat} {env : Env} (hk : env.scope.kind = .function) (hy : env.scope.names.lookup y = some .cell) : swapsWith (.ListComp elt gs scope pos) (some (.Name y py)) l env = pure false := by
  have ky : env.kindOf y = some .cell := hy
  have hb : env.blockKind = .function := by unfold Env.blockKind; rw [hk]; rfl
  unfold swapsWith
  simp only [hb, ky]
  rfl
end L2

/-! a text times a number -/
namespace L2
open PySem PySem.Spec PyProof PyProof.Rows
def rMulS : R2 := fun x y H Q => ∃ (z : Str) (n : Nat), x = .str z ∧ y = .int (n : Int) ∧ z.length ≤ 1000 ∧ n ≤ 1000 ∧ Q (.str (Txt.mul z n)) H
theorem op_mulS {X : Cx} : OpR X (binaryOp .Mult) rMulS := by
  intro pins s σ H x y v u Q I rx ry h
  obtain ⟨z, n, rfl, rfl, hz, hn, q⟩ := h
  obtain ⟨t, rfl⟩ := rx
  obtain ⟨t', rfl⟩ := ry
  have hb : z.length * n ≤ 1000000 := Nat.mul_le_mul hz hn
  refine SB.mul ⟨?_, fun h1 h2 => ?_, fun h1 h2 => ?_⟩ (fun t' tk => ⟨.str (Txt.mul z n), H, I.tok _, ⟨_, rfl⟩, q⟩)
  · have a : ¬ ((n : Int) < -(2 ^ 63 : Int)) := by omega
    have b : ¬ ((n : Int) ≥ 2 ^ 63) := by omega
    rw [decide_eq_false a, decide_eq_false b]
    rfl
  · have h3 : (z.length : Int) * (n : Int) ≤ 1000000 := by
      have h := Int.ofNat_le.mpr hb
      rw [Int.natCast_mul] at h
      exact h
    have h4 : (z.length : Int) ≤ 9223372036854775807 / (n : Int) := Int.le_ediv_of_mul_le (by omega) (by omega)
    have h5 : (2 ^ 63 - 1 : Int) = 9223372036854775807 := by decide
    rw [h5]
    omega
  · show decide (z.length * ((n : Int)).toNat > sizeLine) = false
    rw [Int.toNat_natCast]
    exact decide_eq_false (by show ¬ (z.length * n > 2 ^ 24); omega)
theorem foldl_cps (a : Array Nat) : ∀ (k : Nat) (acc : Array Nat), ((List.replicate k a).foldl (· ++ ·) acc).toList = acc.toList ++ (List.replicate k a.toList).flatten
  | 0, acc => by simp
  | k + 1, acc => by
    rw [List.replicate_succ, List.foldl_cons, foldl_cps a k]
    simp [List.replicate_succ]
theorem sg_mulS (z : Str) (n : Nat) : (Txt.mul z (n : Int)).cps.toList = (List.replicate n z.cps.toList).flatten := by
  unfold Txt.mul
  by_cases h1 : (n : Int) < 1
  · rw [if_pos h1]
    have e : n = 0 := by omega
    subst e
    rfl
  · rw [if_neg h1]
    by_cases h2 : ((n : Int) == 1 || z.length == 0) = true
    · rw [if_pos h2]
      rcases Bool.or_eq_true_iff.mp h2 with h3 | h3
      · have : n = 1 := by have := eq_of_beq h3; omega
        subst this
        simp
      · have h4 : z.cps.toList = [] := by
          have h5 : z.length = 0 := eq_of_beq h3
          have : z.cps.size = 0 := h5
          exact List.length_eq_zero_iff.mp (by simpa using this)
        rw [h4]
        simp
    · rw [if_neg h2, Int.toNat_natCast]
      show ((List.replicate n z.cps).foldl (· ++ ·) #[]).toList = _
      rw [foldl_cps]
      simp
end L2

/-! range(n) as a value; list(range(..)) -/
namespace L2
open PySem PySem.Spec PyProof.Rows
def rRng1 : List V → Hp → VK → Prop := fun vs H Q => ∃ j, vs = [V.int j] ∧ ∀ p, H p = none → Q (.ref p) (upd H p (.rng 0 j))
def rLstR : List V → Hp → VK → Prop := fun xs H Q => ∃ (a : Addr) (lo hi : Int), xs = [.ref a] ∧ H a = some (.rng lo hi) ∧ (-(2 ^ 62) ≤ lo ∧ lo < 2 ^ 62 ∧ -(2 ^ 62) ≤ hi ∧ hi < 2 ^ 62) ∧ (hi - lo).toNat ≤ 100000 ∧
    ∀ p, H p = none → Q (.ref p) (upd H p (.lst ((List.range (hi - lo).toNat).map fun i : Nat => V.int (lo + (i : Int)))))
section
variable {X : Cx}
theorem cr_range1 : CallR X (.type "range") rRng1 := by
  intro pins s σ H vs us Q I r h
  obtain ⟨j, rfl, q⟩ := h
  obtain ⟨u, rfl, r1⟩ := vals1 r
  obtain ⟨t, rfl⟩ := r1
  refine call_range_1 ?_
  refine ⟨.ref s.heap.objs.size, upd H s.heap.objs.size (.rng 0 j), I.laid (fun b u e => Heap.get?_push_of_some _ e) (Nat.le_refl _) ⟨s.toks, t, s.toks + 1, Heap.get?_push_size _ rfl⟩, rfl, q _ (I.hok.fresh (Nat.le_refl _))⟩
theorem vals_rng {n : Nat} {lo : Int} {l : List Value} (hl : l.length = n) (h : ∀ (j : Nat) (v : Value), l[j]? = some v → ∃ t, v = .int (lo + (j : Nat) * 1) t) : Vals ((List.range n).map fun i : Nat => V.int (lo + (i : Int))) l := by
  induction l generalizing n lo with
  | nil =>
    subst hl
    exact .nil
  | cons a r ih =>
    subst hl
    show Vals ((List.range (r.length + 1)).map _) (a :: r)
    rw [List.range_succ_eq_map, List.map_cons, List.map_map]
    refine .cons ?_ ?_
    · obtain ⟨t, e⟩ := h 0 a rfl
      exact ⟨t, by rw [e]; simp⟩
    · have z := ih (n := r.length) (lo := lo + 1) rfl (fun j v e => by
        obtain ⟨t, q⟩ := h (j + 1) v e
        exact ⟨t, by rw [q]; congr 1; push_cast; omega⟩)
      have e : ((fun i : Nat => V.int (lo + (i : Int))) ∘ Nat.succ) = fun i : Nat => V.int (lo + 1 + (i : Int)) := by
        funext i
        show V.int _ = V.int _
        congr 1
        push_cast
        omega
      rw [e]
      exact z
theorem call_list_rng (hcalm : X.calm = true) : CallR X (.type "list") rLstR := by
  intro pins s σ H xs us Q I r h
  obtain ⟨a, lo, hi, rfl, ha, ⟨h1, h2, h3, h4⟩, hn, q⟩ := h
  obtain ⟨u, rfl, r1⟩ := vals1 r
  cases r1
  obtain ⟨t, u, v, e⟩ : ∃ t u v, s.heap.get? a = some { cls := .type "range", data := .fields #[.int lo t, .int hi u, .int 1 v] } := I.hok _ _ ha
  refine call_list_range (n := (hi - lo).toNat) (I.ok.hd hcalm) e (small_one h1 h2 h3 h4) (rangeSize_nat lo hi) (by omega) fun h' tk acc c' hk hS hacc => ?_
  have hv : Vals ((List.range (hi - lo).toNat).map fun i : Nat => V.int (lo + (i : Int))) acc.toList := vals_rng (by rw [Array.length_toList]; exact hacc.1) fun j v e => hacc.2 j v (by rw [← Array.getElem?_toList]; exact e)
  refine ⟨.ref s.heap.objs.size, upd H s.heap.objs.size (.lst _), I.laid (t' := tk) hk (Nat.le_refl _)
    (show ObjOk X.prog X.w (upd H s.heap.objs.size (.lst ((List.range (hi - lo).toNat).map fun i : Nat => V.int (lo + (i : Int))))) h' s.heap.objs.size (.lst ((List.range (hi - lo).toNat).map fun i : Nat => V.int (lo + (i : Int)))) from ⟨?_, acc.toList, c', hv, by rw [Array.toArray_toList]; exact hS⟩), rfl, q _ (I.hok.fresh (Nat.le_refl _))⟩
  rw [List.length_map, List.length_range, sizeLine_eq]
  omega
end
end L2
namespace L2
open PySem PySem.Spec PyProof.Rows
theorem op_catAK {X : Cx} {K : PySem.W.Frag} (hK : X.K = K := by rfl) : OpR X (binaryOp .Add) (rCatA K) := by
  subst hK
  exact op_catA
end L2
namespace L2
open PySem PySem.Spec PyProof.Rows Evl
/-- list(range(n)) -/
theorem el_rng {te : TE} {σ : St} {H : Hp} {n : Nat} (h : Ev te σ H (.int (n : Int))) (few : n ≤ 100000) : EvL (tCB rLstR (tCons (tCB rRng1 (tCons te tNil)) tNil)) σ H ((List.range n).map fun i : Nat => V.int (i : Int)) := fun H1 e1 Q q =>
  h H1 e1 _ fun H2 e2 => ⟨(n : Int), rfl, fun p hp => ⟨p, 0, (n : Int), rfl, upd_same, ⟨by omega, by omega, by omega, by omega⟩, by omega, fun l hl => by
    have en : ((n : Int) - 0).toNat = n := by omega
    have z := q l (upd (upd H2 p (.rng 0 (n : Int))) l (.lst ((List.range n).map fun i : Nat => V.int (i : Int)))) (fresh_back (e2.trans (Ex.new hp)) hl) ((e2.trans (Ex.new hp)).trans (Ex.new hl)) upd_same
    have ef : (fun i : Nat => V.int ((0 : Int) + (i : Int))) = fun i : Nat => V.int (i : Int) := funext fun i => by rw [Int.zero_add]
    rw [en, ef]
    exact z⟩⟩
end L2

-- base: law_k03_words_and_far_words
/-! the law -/
namespace K03
open PySem L2 LamX LamV Evl OxK
def spFarE (K : PySem.W.Frag) : Sp := fun vs H Q E => spFar K (cM K) vs H Q E ∨ spFarX K (cM K) 1 (He.ga K "InvalidState") (He.ga K "InvalidWord") (He.ga K "InvalidCount") vs H Q E
structure Gk (P : Program) (w : World) (K : PySem.W.Frag) (mg : Str → Option Value) (base : Heap) where
  T : NoS mg
  brange : mg "range" = none
  fdBag : FuncData
  GBag : FnOk P w K mg base CX0 1 (He.ga K "_law_bag") fdBag ["_law_script"] (spBag K)
  gBag : mg "_law_bag" = some (.ref (He.ga K "_law_bag"))
  kBag : PySem.W.keepIn K (.ref (He.ga K "_law_bag")) = true
  bBag : Binds K fdBag ["_law_script"] []
  fdPull : FuncData
  GPull : FnOk P w K mg base CX0 1 (He.ga K "_law_pull") fdPull ["_law_bag_here", "_law_amount"] spPull
  gPull : mg "_law_pull" = some (.ref (He.ga K "_law_pull"))
  kPull : PySem.W.keepIn K (.ref (He.ga K "_law_pull")) = true
  bPull : Binds K fdPull ["_law_bag_here", "_law_amount"] []
  fdSg : FuncData
  GSg : FnOk P w K mg base CX0 3 (He.ga K "_law_signs") fdSg ["_law_bag_here"] spSg
  gSg : mg "_law_signs" = some (.ref (He.ga K "_law_signs"))
  kSg : PySem.W.keepIn K (.ref (He.ga K "_law_signs")) = true
  bSg : Binds K fdSg ["_law_bag_here"] []
  fdSame : FuncData
  GSame : FnOk P w K mg base CX0 4 (He.ga K "_law_same") fdSame ["_law_found", "_law_due"] (spSame 3)
  gSame : mg "_law_same" = some (.ref (He.ga K "_law_same"))
  kSame : PySem.W.keepIn K (.ref (He.ga K "_law_same")) = true
  bSame : Binds K fdSame ["_law_found", "_law_due"] []
  fdTxt : FuncData
  GTxt : FnOk P w K mg base CX0 3 (He.ga K "_law_text") fdTxt ["_law_bag_here", "_law_signs_here", "_law_most"] spTxt
  gTxt : mg "_law_text" = some (.ref (He.ga K "_law_text"))
  kTxt : PySem.W.keepIn K (.ref (He.ga K "_law_text")) = true
  bTxt : Binds K fdTxt ["_law_bag_here", "_law_signs_here", "_law_most"] []
  fdLm : FuncData
  GLm : FnOk P w K mg base CX0 3 (He.ga K "_law_machine") fdLm ["_law_bag_here", "_law_signs_here", "_law_size"] spLm
  gLm : mg "_law_machine" = some (.ref (He.ga K "_law_machine"))
  kLm : PySem.W.keepIn K (.ref (He.ga K "_law_machine")) = true
  bLm : Binds K fdLm ["_law_bag_here", "_law_signs_here", "_law_size"] []
  fdMd : FuncData
  GMd : FnOk P w K mg base CX0 6 (He.ga K "_law_made") fdMd ["_law_model"] (spMd K (cM K))
  gMd : mg "_law_made" = some (.ref (He.ga K "_law_made"))
  kMd : PySem.W.keepIn K (.ref (He.ga K "_law_made")) = true
  bMd : Binds K fdMd ["_law_model"] []
  fdLd : FuncData
  GLd : FnOk P w K mg base CX0 2 (He.ga K "_law_led") fdLd ["_law_model", "_law_state_z", "_law_word_z"] spLd
  gLd : mg "_law_led" = some (.ref (He.ga K "_law_led"))
  kLd : PySem.W.keepIn K (.ref (He.ga K "_law_led")) = true
  bLd : Binds K fdLd ["_law_model", "_law_state_z", "_law_word_z"] []
  fdLw : FuncData
  GLw : FnOk P w K mg base CX0 2 (He.ga K "_law_words_of") fdLw ["_law_model"] spLw
  gLw : mg "_law_words_of" = some (.ref (He.ga K "_law_words_of"))
  kLw : PySem.W.keepIn K (.ref (He.ga K "_law_words_of")) = true
  bLw : Binds K fdLw ["_law_model"] []
  fdOdw : FuncData
  GOdw : FnOk P w K mg base CX0 3 (He.ga K "_law_odd_word") fdOdw ["_law_bag_here", "_law_signs_here"] spOdw
  gOdw : mg "_law_odd_word" = some (.ref (He.ga K "_law_odd_word"))
  kOdw : PySem.W.keepIn K (.ref (He.ga K "_law_odd_word")) = true
  bOdw : Binds K fdOdw ["_law_bag_here", "_law_signs_here"] []
  fdOds : FuncData
  GOds : FnOk P w K mg base CX0 3 (He.ga K "_law_odd_state") fdOds ["_law_bag_here", "_law_size"] spOds
  gOds : mg "_law_odd_state" = some (.ref (He.ga K "_law_odd_state"))
  kOds : PySem.W.keepIn K (.ref (He.ga K "_law_odd_state")) = true
  bOds : Binds K fdOds ["_law_bag_here", "_law_size"] []
  fdOdc : FuncData
  GOdc : FnOk P w K mg base CX0 3 (He.ga K "_law_odd_count") fdOdc ["_law_bag_here"] spOdc
  gOdc : mg "_law_odd_count" = some (.ref (He.ga K "_law_odd_count"))
  kOdc : PySem.W.keepIn K (.ref (He.ga K "_law_odd_count")) = true
  bOdc : Binds K fdOdc ["_law_bag_here"] []
  fdTry : FuncData
  GTry : ∀ base, FnOk P w K mg base CX0 15 (He.ga K "_law_try") fdTry ["_law_ask"] (spTry P w K mg (He.ga K "TeamError") (He.ga K "Missing") (He.ga K "NothingLeft") 11 base)
  gTry : mg "_law_try" = some (.ref (He.ga K "_law_try"))
  kTry : PySem.W.keepIn K (.ref (He.ga K "_law_try")) = true
  bTry : Binds K fdTry ["_law_ask"] []
  fdTries : FuncData
  GTries : ∀ base, FnOk P w K mg base CX0 16 (He.ga K "_law_tries") fdTries ["_law_asks"] (spTries P w K mg (He.ga K "TeamError") (He.ga K "Missing") (He.ga K "NothingLeft") 11 base)
  gTries : mg "_law_tries" = some (.ref (He.ga K "_law_tries"))
  kTries : PySem.W.keepIn K (.ref (He.ga K "_law_tries")) = true
  bTries : Binds K fdTries ["_law_asks"] []
  MC : MCls K (cM K)
  fBh : Addr
  fdBh : FuncData
  dBh : List Value
  mBh : Meth K (cM K) "behind" fBh
  GBh : FnOk P w K mg base CX0 4 fBh fdBh ["self", "word", "state"] (spBhS K (cM K))
  XBh : ∀ base, FnOk P w K mg base (L2.CX P w) 6 fBh fdBh ["self", "word", "state"] (spBhX K (cM K) 1 (He.ga K "InvalidState") (He.ga K "InvalidWord"))
  bBh : Binds K fdBh ["self", "word", "state"] dBh
  vBh : Vals [V.int 0] dBh
  FBh : FunD K "behind" "Machine.behind" (defArgs sBh) (defBody sBh) (defScope sBh) [] [("state", .int 0)] fBh fdBh
  fFa : Addr
  fdFa : FuncData
  dFa : List Value
  mFa : Meth K (cM K) "far" fFa
  GFa : FnOk P w K mg base CX0 5 fFa fdFa ["self", "parts", "state"] (spFar K (cM K))
  XFa : ∀ base, FnOk P w K mg base (L2.CX P w) 7 fFa fdFa ["self", "parts", "state"] (spFarE K)
  bFa : Binds K fdFa ["self", "parts", "state"] dFa
  vFa : Vals [V.int 0] dFa
  FFa : FunD K "far" "Machine.far" (defArgs sFar) (defBody sFar) (defScope sFar) [] [("state", .int 0)] fFa fdFa
  fWt : Addr
  fdWt : FuncData
  mWt : Meth K (cM K) "word_to" fWt
  GWt : FnOk P w K mg base CX0 4 fWt fdWt ["self", "state"] (spMwt K (cM K))
  XWt : ∀ base, FnOk P w K mg base (L2.CX P w) 6 fWt fdWt ["self", "state"] (spRqsX K (cM K) 1 (He.ga K "InvalidState"))
  bWt : Binds K fdWt ["self", "state"] []
  FWt : FunD K "word_to" "Machine.word_to" (defArgs sMwt) (defBody sMwt) (defScope sMwt) [] [] fWt fdWt
  eS : ErrC K (He.ga K "TeamError") (He.ga K "InvalidState")
  eW : ErrC K (He.ga K "TeamError") (He.ga K "InvalidWord")
  eC : ErrC K (He.ga K "TeamError") (He.ga K "InvalidCount")
theorem lam_u (P : Addr) (q : Str) : ∀ p ∈ [(P, q)], p.1 = P → p.2 = q := fun p hp _ => by rw [List.mem_singleton.mp hp]
def TL (PT : Addr) : List (Addr × Str) := [(PT, (PyProof.Rows.envOfC "law" (defScope sLaw) 0 0 .none).qual ++ "<lambda>")]
def spLaw (K : PySem.W.Frag) (T : List (Addr × Str)) : Sp := fun vs H Q _ => ∃ (a : Addr) (ns : List Int), vs = [.ref a] ∧ SqL K H a (ns.map V.int) ∧ ns.length ≤ 1000 ∧ Tabs T H ∧ ∀ H', Q (.bl true) H'
section
variable {K : PySem.W.Frag} {C CT : Addr} {H H' : Hp} {b l s : Addr} {ns : List Int} {x : Str} {ms : List Addr} {tss : List (List (List Nat))} {rows : List (List Nat)}
theorem rd_extN {o : HO} {c : Addr} (h : Rd H c o) (no : ∀ ps, o ≠ .tbl ps) (e : ExtN H H') : Rd H' c o := by
  rcases h with h | ⟨u, h⟩
  · exact .inl (e _ _ h no)
  · exact .inr ⟨u, e _ _ h (fun _ z => nomatch z)⟩
theorem sqt_extN {c : Addr} {xs : List V} (h : SqT K H c xs) (e : ExtN H H') : SqT K H' c xs := h.imp (fun r => rd_extN r (fun _ z => nomatch z) e) id
theorem ism_extN {s : Addr} (h : IsM K C H s x rows) (e : ExtN H H') : IsM K C H' s x rows := by
  obtain ⟨dx, r, d, hs, ⟨bs, hB, bl, hR⟩, hd⟩ := h
  exact ⟨dx, r, d, e _ _ hs (fun _ z => nomatch z), ⟨bs, sqt_extN hB e, bl, fun i b row h1 h2 => sqt_extN (hR i b row h1 h2) e⟩, e _ _ hd (fun _ z => nomatch z)⟩
end
theorem q_ifSame {ta tb : TE} {tu tz : TS} {D : Ends} {σ : L2.St} {H : Hp} {b : Addr} {n : Nat} {d : Dt} (ha : VD b ta σ H n d) (hb : VD b tb σ H n d) (nb : H b ≠ none) (k : ∀ H2, Ex H H2 → tz D σ H2) : tSeq (tIfS (tNot (tB (tCall (spSame n) [] E0 (tCons ta (tCons tb tNil))))) tu tNext) tz D σ H :=
  vd_same (c := true) ha hb (by simp) nb fun H2 e2 => ⟨true, rfl, iteF (k H2 e2)⟩
theorem q_ifSameL {ta tb : TE} {tu : TS} {D : Ends} {σ : L2.St} {H : Hp} {b : Addr} {n : Nat} {d : Dt} (ha : VD b ta σ H n d) (hb : VD b tb σ H n d) (nb : H b ≠ none) (k : ∀ H2, Ex H H2 → D.nx σ H2) : tIfS (tNot (tB (tCall (spSame n) [] E0 (tCons ta (tCons tb tNil))))) tu tNext D σ H :=
  vd_same (c := true) ha hb (by simp) nb fun H2 e2 => ⟨true, rfl, iteF (k H2 e2)⟩
theorem ask_mk {X : Cx} {C1 C2 C3 f c' : Addr} {kk n : Nat} {params : Arguments} {body : Expr} {scope : Scope} {te : XK → TE} {dV : Value} {H : Hp} {d : Dt} (σ : L2.St) (_hat : LamAt H f (mkLF X params body scope c' dV)) (LT : LamTold X kk params body scope te) (A : AskEv X.K C1 C2 C3 H n ⟨f, mkLF X params body scope c' dV, fun E H' Q' => te E σ H' Q'⟩ d) :
    ∃ x : Ask, x.f = f ∧ (∀ base, OwnR X kk σ base → AskR X.prog X.w X.K X.mg base (kk + 1) x) ∧ AskEv X.K C1 C2 C3 H n x d := ⟨_, rfl, fun base hL => hL LT, A⟩
theorem odd_ix24 {n : Nat} (h : n ≤ 24) : ∀ d ∈ oddS n, dIx d (n : Int) = false := by
  intro d hd
  simp only [oddS, List.mem_cons, List.mem_nil_iff, or_false] at hd
  rcases hd with rfl | rfl | rfl | rfl | rfl | rfl | rfl <;> first | (simp [dIx, isIx]; done) | (simp [dIx, isIx]; omega)
theorem five_odd : ∀ x ∈ five5, wordB x (Str.ofString "A") = false ∧ wordB x (Str.ofString "?") = false ∧ wordB x (x ++ Str.ofString "q") = false ∧ wordB x (Str.ofString "a b") = false ∧ (x ++ Str.ofString "q").length ≤ 1000 := by decide +kernel
theorem noWd_has {K : PySem.W.Frag} {H : Hp} {n : Nat} {x : Str} {v : V} {d : Dt} (x5 : x ∈ five5) (hd : d ∈ oddW x) (h : Has H n v d) : NoWd K H x v := by
  obtain ⟨w1, w2, w3, w4, w5⟩ := five_odd x x5
  simp only [oddW, List.mem_cons, List.mem_nil_iff, or_false] at hd
  have fl : ∀ {w : V}, d = .f w → (tyF w ≠ "str" ∨ ∃ y : Str, w = .str y ∧ tyF w = "str" ∧ y.length ≤ 1000 ∧ wordB x y = false) → NoWd K H x v := fun {w} e hw => by
    subst e
    obtain ⟨fv, rfl⟩ := has_fl h
    exact ⟨_, kn_flat fv, hw⟩
  rcases hd with e | e | e | e | e | e | e
  · exact fl e (.inr ⟨_, rfl, rfl, by decide +kernel, w1⟩)
  · exact fl e (.inl (by simp [tyF]))
  · exact fl e (.inr ⟨_, rfl, rfl, by decide +kernel, w2⟩)
  · exact fl e (.inl (by simp [tyF]))
  · exact fl e (.inr ⟨_, rfl, rfl, w5, w3⟩)
  · subst e
    obtain ⟨T, k, z⟩ := kn_has (K := K) h fun w e => nomatch e
    exact ⟨T, k, .inl (by rcases z with rfl | rfl <;> decide)⟩
  · exact fl e (.inr ⟨_, rfl, rfl, by decide +kernel, w4⟩)
structure F3 (K : PySem.W.Frag) (C b l m s : Addr) (T : List (Addr × Str)) (zs : List Int) (x : Str) (rows : List (List Nat)) (H : Hp) : Prop where
  B : Bag H b l zs
  t : Tabs T (dl b H)
  mo : Mod (dl b H) m x rows
  im : IsM K C (dl b H) s x rows
section
variable {K : PySem.W.Frag} {C b l m s : Addr} {T : List (Addr × Str)} {zs : List Int} {x : Str} {rows : List (List Nat)} {H H' : Hp}
theorem F3.stp (h : F3 K C b l m s T zs x rows H) (B' : Bag H' b l zs) (e : Ex (dl b H) (dl b H')) : F3 K C b l m s T zs x rows H' := ⟨B', h.t.ext e, mod_ex h.mo e, sqt_ex h.im e⟩
theorem F3.ex (h : F3 K C b l m s T zs x rows H) (e : Ex H H') : F3 K C b l m s T zs x rows H' := h.stp (bag_ex h.B e) (dl_up e)
theorem mod_extN {H1 H2 : Hp} (h : Mod H1 m x rows) (e : ExtN H1 H2) : Mod H2 m x rows := by
  obtain ⟨L, ls, h1, h2, h3, h4⟩ := h
  exact ⟨L, ls, e _ _ h1 (fun _ z => nomatch z), e _ _ h2 (fun _ z => nomatch z), h3, fun i a row p q => e _ _ (h4 i a row p q) (fun _ z => nomatch z)⟩
theorem F3.xN (h : F3 K C b l m s T zs x rows H) (B' : Bag H' b l zs) (t' : Tabs T (dl b H')) (e : ExtN (dl b H) (dl b H')) : F3 K C b l m s T zs x rows H' := ⟨B', t', mod_extN h.mo e, ism_extN h.im e⟩
end
section
variable {K : PySem.W.Frag} {C b l m s p : Addr} {zs : List Int} {σ : L2.St} {H H' : Hp} {x w wd : Str} {rows : List (List Nat)} {te ta tb tl ts tw tg tm : TE} {n c i st : Nat} {z y : Int} {ps : List (Str × Nat)}
theorem ev_intI5 (h : Ev te σ H (.int z)) : Ev (tCB (fun xs H Q => (∃ i, xs = [V.int i] ∧ Q (V.int i) H) ∨ ∃ k, xs = [V.bl k] ∧ Q (V.int (if k = true then 1 else 0)) H) (tCons te tNil)) σ H (.int z) := fun H1 e1 Q q => h H1 e1 _ fun H2 e2 => .inl ⟨z, rfl, q H2 e2⟩
theorem ev_modI5 (ha : Ev ta σ H (.int z)) (hb : Ev tb σ H (.int (n : Int))) (n1 : 1 ≤ n) : Ev (tOp (rI (fun x j => 0 < j) fun i j => V.int (i % j)) ta tb) σ H (.int (z % (n : Int))) := ev_op ha hb (rv_I (by show (0 : Int) < n; omega))
theorem ev_lenM3 (hv : σ[i]? = some (some (.ref m))) (mo : Mod H m x rows) : Ev (tCB (fun xs H Q => ∃ p ys, xs = [V.ref p] ∧ (SqL K H p ys ∨ SqT K H p ys) ∧ Q (V.int ys.length) H) (tCons (tOp (rIxT K) (tVar i) (tC (V.int 1))) tNil)) σ H (.int (rows.length : Int)) := fun H1 e1 Q q => by
  obtain ⟨L, ls, hm, hL, ll, _⟩ := mo
  exact ⟨_, hv, m, _, 1, .ref L, rfl, rfl, SqT.of (e1 _ _ hm), rfl, L, _, rfl, .inl (SqL.of (e1 _ _ hL)), by rw [List.length_map, ll]; exact q H1 (Ex.refl _)⟩
theorem ev_ld3 (hv : Ev tm σ H (.ref m)) (mo : Mod H m x rows) (x5 : x ∈ five5) (ro : RowsOk x rows) (wo : WordOk x wd) (hs : Ev ta σ H (.int (st : Int))) (sl : st < rows.length) (hw : Ev tw σ H (.str wd)) : Ev (tCall spLd [] E0 (tCons tm (tCons ta (tCons tw tNil)))) σ H (.int (wlk x rows st (sg wd) : Int)) := fun H1 e1 Q q =>
  hv H1 e1 _ fun H2 e2 => hs H2 (e1.trans e2) _ fun H3 e3 => hw H3 ((e1.trans e2).trans e3) _ fun H4 e4 => ⟨m, x, wd, rows, st, rfl, mod_ex mo (((e1.trans e2).trans e3).trans e4), x5, ro, wo, sl, fun H5 e5 => q H5 (((e2.trans e3).trans e4).trans e5)⟩
theorem ev_bhN3 {gV : List V → List V → List V} (hg : ∀ a b c, gV [a, b] [c] = [a, b, c]) (hv : Ev te σ H (.ref s)) (im : IsM K C H s x rows) (x5 : x ∈ five5) (ro : RowsOk x rows) (wo : WordOk x wd) (hw : Ev tw σ H (.str wd)) (hs : Ev ts σ H (.int (st : Int))) (sl : st < rows.length) : Ev (tMethN C "behind" 2 1 (spBhS K C) gV E0 te (tCons tw tNil) (tCons ts tNil)) σ H (.int (wlk x rows st (sg wd) : Int)) := fun H1 e1 Q q => hv H1 e1 _ fun H2 e2 => by
  have im2 := sqt_ex im (e1.trans e2)
  obtain ⟨dx, r, d, h, _⟩ := id im2
  exact ⟨s, dx, _, rfl, h, rfl, hw H2 (e1.trans e2) _ fun H3 e3 => hs H3 ((e1.trans e2).trans e3) _ fun H4 e4 => ⟨rfl, rfl, s, x, wd, rows, st, hg _ _ _, sqt_ex im2 (e3.trans e4), x5, ro, wo, sl, fun H5 e5 => q H5 (((e2.trans e3).trans e4).trans e5)⟩⟩
theorem ev_bh03 {gV : List V → List V → List V} (hg : ∀ a b c, gV [a] [b, c] = [a, c, b]) (hv : Ev te σ H (.ref s)) (im : IsM K C H s x rows) (x5 : x ∈ five5) (ro : RowsOk x rows) (wo : WordOk x wd) (hw : Ev tw σ H (.str wd)) (hs : Ev ts σ H (.int (st : Int))) (sl : st < rows.length) : Ev (tMethN C "behind" 1 2 (spBhS K C) gV E0 te tNil (tCons ts (tCons tw tNil))) σ H (.int (wlk x rows st (sg wd) : Int)) := fun H1 e1 Q q => hv H1 e1 _ fun H2 e2 => by
  have im2 := sqt_ex im (e1.trans e2)
  obtain ⟨dx, r, d, h, _⟩ := id im2
  exact ⟨s, dx, _, rfl, h, rfl, hs H2 (e1.trans e2) _ fun H3 e3 => hw H3 ((e1.trans e2).trans e3) _ fun H4 e4 => ⟨rfl, rfl, s, x, wd, rows, st, hg _ _ _, sqt_ex im2 (e3.trans e4), x5, ro, wo, sl, fun H5 e5 => q H5 (((e2.trans e3).trans e4).trans e5)⟩⟩
theorem Parts.ex (h : Parts K H x p ps) (e : Ex H H') : Parts K H' x p ps := by
  obtain ⟨as, hq, al, hps⟩ := h
  exact ⟨as, hq.ex e, al, fun i a w n p q => ⟨e _ _ (hps i a w n p q).1, (hps i a w n p q).2⟩⟩
theorem ev_faN3 {gV : List V → List V → List V} (hg : ∀ a b c, gV [a, b] [c] = [a, b, c]) (hv : Ev te σ H (.ref s)) (im : IsM K C H s x rows) (x5 : x ∈ five5) (ro : RowsOk x rows) (hp : Parts K H x p ps) (few : ps.length ≤ 1000) (hw : Ev tw σ H (.ref p)) (hs : Ev ts σ H (.int (st : Int))) (sl : st < rows.length) : Ev (tMethN C "far" 2 1 (spFar K C) gV E0 te (tCons tw tNil) (tCons ts tNil)) σ H (.int (farN x rows ps st : Int)) := fun H1 e1 Q q => hv H1 e1 _ fun H2 e2 => by
  have im2 := sqt_ex im (e1.trans e2)
  obtain ⟨dx, r, d, h, _⟩ := id im2
  exact ⟨s, dx, _, rfl, h, rfl, hw H2 (e1.trans e2) _ fun H3 e3 => hs H3 ((e1.trans e2).trans e3) _ fun H4 e4 => ⟨rfl, rfl, s, p, x, rows, st, ps, hg _ _ _, sqt_ex im2 (e3.trans e4), x5, ro, sl, hp.ex (((e1.trans e2).trans e3).trans e4), few, fun H5 e5 => q H5 (((e2.trans e3).trans e4).trans e5)⟩⟩
theorem ev_fa03 {gV : List V → List V → List V} (hg : ∀ a b c, gV [a] [b, c] = [a, c, b]) (hv : Ev te σ H (.ref s)) (im : IsM K C H s x rows) (x5 : x ∈ five5) (ro : RowsOk x rows) (few : ps.length ≤ 1000) (hw : ∀ H1, Ex H H1 → ∀ Q : VK, (∀ p H2, Ex H1 H2 → Parts K H2 x p ps → Q (.ref p) H2) → tw σ H1 Q) (hs : Ev ts σ H (.int (st : Int))) (sl : st < rows.length) : Ev (tMethN C "far" 1 2 (spFar K C) gV E0 te tNil (tCons ts (tCons tw tNil))) σ H (.int (farN x rows ps st : Int)) := fun H1 e1 Q q => hv H1 e1 _ fun H2 e2 => by
  have im2 := sqt_ex im (e1.trans e2)
  obtain ⟨dx, r, d, h, _⟩ := id im2
  exact ⟨s, dx, _, rfl, h, rfl, hs H2 (e1.trans e2) _ fun H3 e3 => hw H3 ((e1.trans e2).trans e3) _ fun p H4 e4 hp => ⟨rfl, rfl, s, p, x, rows, st, ps, hg _ _ _, sqt_ex im2 (e3.trans e4), x5, ro, sl, hp, few, fun H5 e5 => q H5 (((e2.trans e3).trans e4).trans e5)⟩⟩
end
section
variable {x : Str} {rows : List (List Nat)}
theorem wlk_app : ∀ (l r : List Nat) (s : Nat), wlk x rows s (l ++ r) = wlk x rows (wlk x rows s l) r
  | [], r, s => rfl
  | a :: l, r, s => wlk_app l r _
theorem wlk_rep (l : List Nat) : ∀ (n s : Nat), wlk x rows s (List.replicate n l).flatten = itw x rows l n s
  | 0, s => rfl
  | n + 1, s => by
    rw [List.replicate_succ, List.flatten_cons, wlk_app, wlk_rep l n]
    rfl
theorem itw_nil : ∀ n s : Nat, itw x rows [] n s = s
  | 0, s => rfl
  | n + 1, s => itw_nil n s
theorem itw_big (ro : RowsOk x rows) (six : rows.length ≤ 6) {l : List Nat} (hl : ∀ c ∈ l, c ∈ sg x) {s g : Nat} (lt : s < rows.length) (g8 : 8 ≤ g) : itw x rows l (8 + (g - 8) % 2520) s = itw x rows l g s := by
  classical
  have nn : ¬ (pathN x rows l s (rows.length + 1)).Nodup := fun nd => by have := path_few ro hl lt nd; omega
  have ex : ∃ f j, f < j ∧ j ≤ rows.length ∧ itw x rows l f s = itw x rows l j s := by
    apply Classical.byContradiction
    intro no
    refine nn (List.pairwise_map.mpr (List.Pairwise.imp_of_mem (fun {a b} ha hb hab he => no ⟨a, b, hab, ?_, he⟩) List.pairwise_lt_range))
    have := List.mem_range.mp hb
    omega
  obtain ⟨f, j, fj, jr, h⟩ := ex
  have e1 : 8 + (g - 8) % 2520 = f + (8 - f + (g - 8) % 2520) := by omega
  have e2 : g = f + (8 - f + (g - 8)) := by omega
  rw [e1, itw_per fj h, e2, itw_per fj h (8 - f + (g - 8))]
  have e3 : f + (8 - f + (g - 8)) - 8 = g - 8 := by omega
  rw [e3]
  congr 2
  have dv : (j - f) ∣ 2520 := by
    have h1 : j - f = 1 ∨ j - f = 2 ∨ j - f = 3 ∨ j - f = 4 ∨ j - f = 5 ∨ j - f = 6 := by omega
    rcases h1 with h1 | h1 | h1 | h1 | h1 | h1 <;> rw [h1] <;> decide
  rw [Nat.add_mod (8 - f), Nat.mod_mod_of_dvd _ dv, ← Nat.add_mod]
end
theorem wo_nil (x : Str) : WordOk x (Str.ofString "") where
  of := fun c hc => by
    rw [show sg (Str.ofString "") = [] from rfl] at hc
    cases hc
  few := by decide
theorem wo_mul {x wd : Str} {c : Nat} (wo : WordOk x wd) (wl : wd.length ≤ 6) (h : c ≤ 4) : WordOk x (Txt.mul wd (c : Int)) where
  of := fun a ha => by
    have e : sg (Txt.mul wd (c : Int)) = (List.replicate c (sg wd)).flatten := sg_mulS wd c
    rw [e] at ha
    obtain ⟨l, hl, ha⟩ := List.mem_flatten.mp ha
    rw [(List.mem_replicate.mp hl).2] at ha
    exact wo.of a ha
  few := by
    have e : (Txt.mul wd (c : Int)).length = ((List.replicate c (sg wd)).flatten).length := by
      rw [← show sg (Txt.mul wd (c : Int)) = (List.replicate c (sg wd)).flatten from sg_mulS wd c]
      simp [Str.length, sg]
    have wl2 : (sg wd).length ≤ 6 := by simpa [Str.length, sg] using wl
    rw [e]
    rcases (show c = 0 ∨ c = 1 ∨ c = 2 ∨ c = 3 ∨ c = 4 by omega) with rfl | rfl | rfl | rfl | rfl <;> simp [List.replicate_succ] <;> omega
theorem wlk_mul {x wd : Str} {rows : List (List Nat)} {c s : Nat} : wlk x rows s (sg (Txt.mul wd (c : Int))) = itw x rows (sg wd) c s := by
  rw [show sg (Txt.mul wd (c : Int)) = (List.replicate c (sg wd)).flatten from sg_mulS wd c]
  exact wlk_rep _ _ _
theorem val_str {k : Key} (kvs : List (Nat × Str)) {v : V} (h : valV (dkv kvs) k = some v) : ∃ w : Str, v = .str w := by
  unfold valV at h
  cases e : (dkv kvs).find? fun kv => decide (kv.1 = k) with
  | none => rw [e] at h; cases h
  | some kv =>
    rw [e] at h
    cases h
    obtain ⟨p, _, rfl⟩ := List.mem_map.mp (List.mem_of_find?_eq_some e)
    exact ⟨p.2, rfl⟩
theorem road_flat (x : Str) (rows : List (List Nat)) (st : Nat) : Flat (roadV x rows st) := by
  unfold roadV
  cases h : valV (dkv (roads x rows)) (.inl (st : Int)) with
  | none => exact True.intro
  | some v =>
    obtain ⟨w, rfl⟩ := val_str _ h
    exact True.intro
section
variable {K : PySem.W.Frag} {C b l m s d : Addr} {σ : L2.St} {H H' : Hp} {x w wd : Str} {rows : List (List Nat)} {te ta tb ts : TE} {n c i st : Nat}
theorem rv_mulS (h1 : wd.length ≤ 1000) (h2 : c ≤ 1000) : RV rMulS (.str wd) (.int (c : Int)) H (.str (Txt.mul wd (c : Int))) := fun H1 _ Q q => ⟨wd, c, rfl, rfl, h1, h2, q H1 (Ex.refl _)⟩
theorem ev_wt3 {gV : List V → List V → List V} (hg : ∀ a b, gV [a] [b] = [a, b]) (hv : Ev te σ H (.ref s)) (im : IsM K C H s x rows) (hs : Ev ts σ H (.int (st : Int))) (sl : st < rows.length) : Ev (tMethN C "word_to" 1 1 (spMwt K C) gV E0 te tNil (tCons ts tNil)) σ H (roadV x rows st) := fun H1 e1 Q q => hv H1 e1 _ fun H2 e2 => by
  have im2 := sqt_ex im (e1.trans e2)
  obtain ⟨dx, r, d, h, _⟩ := id im2
  exact ⟨s, dx, _, rfl, h, rfl, hs H2 (e1.trans e2) _ fun H3 e3 => ⟨rfl, rfl, s, x, rows, st, hg _ _, sqt_ex im2 e3, sl, fun H5 e5 => q H5 ((e2.trans e3).trans e5)⟩⟩
theorem ev_get3 (hv : Ev te σ H (.ref d)) (hd : H d = some (.dK (dkv (roads x rows)))) (hs : Ev ts σ H (.int (st : Int))) : Ev (tDGet2 te ts (tC V.non)) σ H (roadV x rows st) := fun H1 e1 Q q => hv H1 e1 _ fun H2 e2 =>
  ⟨d, rfl, .inl ⟨_, .inl (e2 _ _ (e1 _ _ hd))⟩, hs H2 (e1.trans e2) _ fun H3 e3 => ⟨_, .inl ⟨_, .inl (st : Int), .inl (e3 _ _ (e2 _ _ (e1 _ _ hd))), rfl, rfl⟩, q H3 (e2.trans e3)⟩⟩
end
theorem irng_ev {te : TE} {σ : L2.St} {H H' : Hp} {n : Nat} {R : It → Hp → Prop} (h : Ev te σ H' (.int (n : Int))) (e : Ex H' H) (few : n ≤ 1000) (k : ∀ H1, Ex H H1 → R (Itr 0 n) H1) : iRng1 (tCons te tNil) σ H R := h H e _ fun H1 e1 => ⟨(n : Int), rfl, by omega, by omega, k H1 e1⟩
def PartsL (H : Hp) (x : Str) (p : Addr) (ps : List (Str × Nat)) : Prop := ∃ as : List Addr, H p = some (.lst (as.map V.ref)) ∧ as.length = ps.length ∧ ∀ (i : Nat) (a : Addr) (w : Str) (n : Nat), as[i]? = some a → ps[i]? = some (w, n) → H a = some (.tup [.str w, .int (n : Int)]) ∧ WordOk x w ∧ n ≤ 10 ^ 30
section
variable {K : PySem.W.Frag} {C s p : Addr} {x m : Str} {rows : List (List Nat)} {σ : L2.St} {H H' : Hp} {ps : List (Str × Nat)} {sp : Sp} {E : XK} {Q : VK} {tw : TE} {i j : Nat} {y : V} {P : V → Hp → Prop}
theorem PartsL.parts (h : PartsL H x p ps) : Parts K H x p ps := by
  obtain ⟨as, h1, h2, h3⟩ := h
  exact ⟨as, .inl h1, h2, h3⟩
theorem PartsL.ex (h : PartsL H x p ps) (e : Ex H H') : PartsL H' x p ps := by
  obtain ⟨as, h1, h2, h3⟩ := h
  exact ⟨as, e _ _ h1, h2, fun i a w n p q => ⟨e _ _ (h3 i a w n p q).1, (h3 i a w n p q).2⟩⟩
theorem m1_X (hv : σ[i]? = some (some (.ref s))) (im : IsM K C H s x rows) (hm : ∀ r d, (mFs x r d).lookup m = none) (hw : ∀ Q : VK, (∀ v H1, Ex H H1 → P v H1 → Q v H1) → tw σ H Q) (h : ∀ v H1, Ex H H1 → P v H1 → sp [.ref s, v, .int 0] H1 Q E) : tMeth C m sp [V.int 0] E (tVar i) (tCons tw tNil) σ H Q := by
  obtain ⟨dx, r, d, hs, _⟩ := id im
  exact ⟨_, hv, s, dx, _, rfl, hs, hm _ _, hw _ fun v H1 e1 pv => h v H1 e1 pv⟩
theorem m0_X (hv : σ[i]? = some (some (.ref s))) (im : IsM K C H s x rows) (hm : ∀ r d, (mFs x r d).lookup m = none) (hw : ∀ Q : VK, (∀ v H1, Ex H H1 → P v H1 → Q v H1) → tw σ H Q) (h : ∀ v H1, Ex H H1 → P v H1 → sp [.ref s, v] H1 Q E) : tMeth C m sp [] E (tVar i) (tCons tw tNil) σ H Q := by
  obtain ⟨dx, r, d, hs, _⟩ := id im
  exact ⟨_, hv, s, dx, _, rfl, hs, hm _ _, hw _ fun v H1 e1 pv => h v H1 e1 pv⟩
theorem mN_X {gV : List V → List V → List V} (hg : ∀ a b c, gV [a, b] [c] = [a, b, c]) (hv : σ[i]? = some (some (.ref s))) (im : IsM K C H s x rows) (hm : ∀ r d, (mFs x r d).lookup m = none) (hw : ∀ Q : VK, (∀ v H1, Ex H H1 → P v H1 → Q v H1) → tw σ H Q) (hy : σ[j]? = some (some y)) (h : ∀ v H1, Ex H H1 → P v H1 → sp [.ref s, v, y] H1 Q E) : tMethN C m 2 1 sp gV E (tVar i) (tCons tw tNil) (tCons (tVar j) tNil) σ H Q := by
  obtain ⟨dx, r, d, hs, _⟩ := id im
  refine ⟨_, hv, s, dx, _, rfl, hs, hm _ _, hw _ fun v H1 e1 pv => ⟨_, hy, rfl, rfl, ?_⟩⟩
  rw [hg]
  exact h v H1 e1 pv
end
section
variable {P : Program} {w : World} {K : PySem.W.Frag} {mg : Str → Option Value} {base : Heap} {f : Addr} {fd : FuncData}
theorem kb_bhN (F : FunD K "behind" "Machine.behind" (defArgs sBh) (defBody sBh) (defScope sBh) [] [("state", .int 0)] f fd) : ∃ mv : List Value, KBn K fd ["self", "word", "state"] 2 ["state"] (fun us ws => us ++ ((ws.drop 0).take 1)) (fun us ws => us ++ ((ws.drop 0).take 1)) :=
  F.kbinds0 2 ["state"] [] (fun us mz ws => us ++ ((ws.drop 0).take 1)) (by decide) (fun q h => by cases h) (fun r1 r2 r3 => (r1.append ((r3.drop 0).take 1))) (fun D doc pm an cdv ct us mv ws h1 h2 h3 => by
    match us, mv, ws, h1, h2, h3 with
    | [a0, a1], [], [b0], _, _, _ => exact rfl)
theorem kb_bh0 (F : FunD K "behind" "Machine.behind" (defArgs sBh) (defBody sBh) (defScope sBh) [] [("state", .int 0)] f fd) : ∃ mv : List Value, KBn K fd ["self", "word", "state"] 1 ["state", "word"] (fun us ws => us ++ ((ws.drop 1).take 1 ++ ((ws.drop 0).take 1))) (fun us ws => us ++ ((ws.drop 1).take 1 ++ ((ws.drop 0).take 1))) :=
  F.kbinds0 1 ["state", "word"] [] (fun us mz ws => us ++ ((ws.drop 1).take 1 ++ ((ws.drop 0).take 1))) (by decide) (fun q h => by cases h) (fun r1 r2 r3 => (r1.append (((r3.drop 1).take 1).append ((r3.drop 0).take 1)))) (fun D doc pm an cdv ct us mv ws h1 h2 h3 => by
    match us, mv, ws, h1, h2, h3 with
    | [a0], [], [b0, b1], _, _, _ => exact rfl)
theorem kb_faN (F : FunD K "far" "Machine.far" (defArgs sFar) (defBody sFar) (defScope sFar) [] [("state", .int 0)] f fd) : ∃ mv : List Value, KBn K fd ["self", "parts", "state"] 2 ["state"] (fun us ws => us ++ ((ws.drop 0).take 1)) (fun us ws => us ++ ((ws.drop 0).take 1)) :=
  F.kbinds0 2 ["state"] [] (fun us mz ws => us ++ ((ws.drop 0).take 1)) (by decide) (fun q h => by cases h) (fun r1 r2 r3 => (r1.append ((r3.drop 0).take 1))) (fun D doc pm an cdv ct us mv ws h1 h2 h3 => by
    match us, mv, ws, h1, h2, h3 with
    | [a0, a1], [], [b0], _, _, _ => exact rfl)
theorem kb_fa0 (F : FunD K "far" "Machine.far" (defArgs sFar) (defBody sFar) (defScope sFar) [] [("state", .int 0)] f fd) : ∃ mv : List Value, KBn K fd ["self", "parts", "state"] 1 ["state", "parts"] (fun us ws => us ++ ((ws.drop 1).take 1 ++ ((ws.drop 0).take 1))) (fun us ws => us ++ ((ws.drop 1).take 1 ++ ((ws.drop 0).take 1))) :=
  F.kbinds0 1 ["state", "parts"] [] (fun us mz ws => us ++ ((ws.drop 1).take 1 ++ ((ws.drop 0).take 1))) (by decide) (fun q h => by cases h) (fun r1 r2 r3 => (r1.append (((r3.drop 1).take 1).append ((r3.drop 0).take 1)))) (fun D doc pm an cdv ct us mv ws h1 h2 h3 => by
    match us, mv, ws, h1, h2, h3 with
    | [a0], [], [b0, b1], _, _, _ => exact rfl)
theorem kb_wt0 (F : FunD K "word_to" "Machine.word_to" (defArgs sMwt) (defBody sMwt) (defScope sMwt) [] [] f fd) : KBn K fd ["self", "state"] 1 ["state"] (fun us ws => us ++ ((ws.drop 0).take 1)) (fun us ws => us ++ ((ws.drop 0).take 1)) := by
  obtain ⟨oc, od, dV, kV, doc, pm, an, cdv, ct, osl, rfl, lk, hcd, hD, hK⟩ := F.ex
  rcases hD with ⟨_, rfl⟩ | ⟨e, _⟩
  · refine ⟨fun s us ws X l1 l2 => BindsTo.of_looks fun M => ?_, fun r1 r3 => (r1.append ((r3.drop 0).take 1))⟩
    match us, ws, l1, l2 with
    | [a0], [b0], _, _ => exact PySem.W.Looks.of_pure rfl
  · exact absurd rfl e
theorem scW : FnScope ["_law_script", "_law_bag_here", "_law_turn", "_law_model", "_law_machine_here", "_law_state_z", "_law_word_z", "_law_goal_here", "_law_great", "_law_parts_z", "_law_end", "_law_k", "_law_words", "_law_one", "_law_bad", "_law_odd", "_law_far", "_law_asks", "_law_due"] ["_law_script"] (defScope sLaw) := ⟨rfl, rfl, rfl, by decide +kernel, rfl, by decide +kernel, by decide +kernel⟩
abbrev XL (P : Program) (w : World) (K : PySem.W.Frag) (mg : Str → Option Value) (base : Heap) (f c : Addr) (A : Around) (outer : List Env) (s : Shared) (H : Hp) (E : XK) : Cx := (cxOf CX0 P w K mg base ["_law_script", "_law_bag_here", "_law_turn", "_law_model", "_law_machine_here", "_law_state_z", "_law_word_z", "_law_goal_here", "_law_great", "_law_parts_z", "_law_end", "_law_k", "_law_words", "_law_one", "_law_bad", "_law_odd", "_law_far", "_law_asks", "_law_due"] "law" (defScope sLaw) f (.ref c) A outer s H E).nox
theorem lamW {scope : Scope} (h : lamS2B ["_law_script", "_law_bag_here", "_law_turn", "_law_model", "_law_machine_here", "_law_state_z", "_law_word_z", "_law_goal_here", "_law_great", "_law_parts_z", "_law_end", "_law_k", "_law_words", "_law_one", "_law_bad", "_law_odd", "_law_far", "_law_asks", "_law_due"] (defScope sLaw) scope = true) : LamS2 ["_law_script", "_law_bag_here", "_law_turn", "_law_model", "_law_machine_here", "_law_state_z", "_law_word_z", "_law_goal_here", "_law_great", "_law_parts_z", "_law_end", "_law_k", "_law_words", "_law_one", "_law_bad", "_law_odd", "_law_far", "_law_asks", "_law_due"] (defScope sLaw) scope := lamS2_by h
theorem ok_law {dV kV doc pm ct oc : Value} {an od : Option Addr} {osl : Array (Option Value)} {c PT : Addr} (lk : K.lookup f = some ⟨oc, od, .func (PySem.W.fnOf "law" "law" (defArgs sLaw) (defBody sLaw) (defScope sLaw) dV kV doc pm an (.ref c) ct), osl⟩) (hcd : PySem.W.codeIn K (.ref c) "law" = true)
    (G : Gk P w K mg base) (TB : TabB base mg c PT) : FnOk P w K mg base CX0 18 f (PySem.W.fnOf "law" "law" (defArgs sLaw) (defBody sLaw) (defScope sLaw) dV kV doc pm an (.ref c) ct) ["_law_script"] (spLaw K (TL PT)) := by
  obtain ⟨mvBN, kbBhN⟩ := kb_bhN G.FBh
  obtain ⟨mvB0, kbBh0⟩ := kb_bh0 G.FBh
  obtain ⟨mvFN, kbFaN⟩ := kb_faN G.FFa
  obtain ⟨mvF0, kbFa0⟩ := kb_fa0 G.FFa
  have kbWt0 := kb_wt0 G.FWt
  refine fn_of lk hcd scW (fun vs H Q E h => ?_) (fun A outer s0 H vs Q E hr h => ?_)
  · obtain ⟨a, ns, rfl, _⟩ := h
    rfl
  · obtain ⟨a, ns, rfl, hS, hl, hT, k⟩ := h
    have hu := Nat.lt_of_le_of_lt (Nat.add_le_add_left (show 1 ≤ 64 by decide) _) hr.units
    refine ⟨_, PSs.nox (pss_cons (ps_set (i := 1) scW.nd rfl (Or.inl rfl) (pe_call G.GBag (hr.mono (by decide)) rfl G.gBag G.kBag G.bBag .nil pass0 (pa_cons (pv 0) pa_nil)))
      (pss_cut (ps_for PassesOwn.never rfl (pi_range1 (by rfl) G.brange (pa_cons pe_int pa_nil)) (pg_name (i := 2) scW.nd rfl (Or.inl rfl)) (pss_cons (ps_set (i := 3) scW.nd rfl (Or.inl rfl) (pe_call G.GLm (hr.mono (by decide)) rfl G.gLm G.kLm G.bLm .nil pass0 (pa_cons (pv 1) (pa_cons (pe_call G.GSg (hr.mono (by decide)) rfl G.gSg G.kSg G.bSg .nil pass0 (pa_cons (pv 1) pa_nil)) (pa_cons (pe_op op_add pe_int (pe_call G.GPull (hr.mono (by decide)) rfl G.gPull G.kPull G.bPull .nil pass0 (pa_cons (pv 1) (pa_cons pe_int pa_nil)))) pa_nil)))))
      (pss_cons (ps_asg (pe_tup (pa_cons (pe_call G.GMd (hr.mono (by decide)) rfl G.gMd G.kMd G.bMd .nil pass0 (pa_cons (pv 3) pa_nil)) (pa_cons (pe_call G.GPull (hr.mono (by decide)) rfl G.gPull G.kPull G.bPull .nil pass0 (pa_cons (pv 1) (pa_cons (pe_callB call_len_seq (by rfl) G.T.len PySem.boot_len (pa_cons (pe_ix ix_tup (pv 3) pe_int (fun _ _ => rfl)) pa_nil)) pa_nil))) (pa_cons (pe_call G.GTxt (hr.mono (by decide)) rfl G.gTxt G.kTxt G.bTxt .nil pass0 (pa_cons (pv 1) (pa_cons (pe_ix ix_tup (pv 3) pe_int (fun _ _ => rfl)) (pa_cons pe_int pa_nil)))) pa_nil)))) (pg_tup (by rfl) (pgs_cons (pg_name (i := 4) scW.nd rfl (Or.inr rfl)) (pgs_cons (pg_name (i := 5) scW.nd rfl (Or.inl rfl)) (pgs_cons (pg_name (i := 6) scW.nd rfl (Or.inr rfl)) pgs_nil)))))
      (pss_cons (ps_set (i := 7) scW.nd rfl (Or.inl rfl) (pe_call G.GLd (hr.mono (by decide)) rfl G.gLd G.kLd G.bLd .nil pass0 (pa_cons (pv 3) (pa_cons (pv 5) (pa_cons (pv 6) pa_nil)))))
      (pss_cons (ps_if (pt_not (pt_val (pe_call G.GSame (hr.mono (by decide)) rfl G.gSame G.kSame G.bSame .nil pass0 (pa_cons (pe_lst (pa_cons (pe_methN (pv 4) G.MC.c G.mBh G.GBh (hr.mono (by decide)) kbBhN pass0 (pa_cons (pv 6) pa_nil) (pk_cons (pv 5) pk_nil)) (pa_cons (pe_methN0 (pv 4) G.MC.c G.mBh G.GBh (hr.mono (by decide)) kbBh0 pass0 (pk_cons pe_int (pk_cons (pv 6) pk_nil))) pa_nil))) (pa_cons (pe_lst (pa_cons (pv 7) (pa_cons (pe_call G.GLd (hr.mono (by decide)) rfl G.gLd G.kLd G.bLd .nil pass0 (pa_cons (pv 3) (pa_cons pe_int (pa_cons (pv 6) pa_nil)))) pa_nil))) pa_nil))))) (pss_one (ps_ret pe_bl)) pss_nil)
      (pss_cons (ps_set (i := 8) scW.nd rfl (Or.inl rfl) (pe_op op_sub (pe_op op_pow pe_int pe_int) (pe_call G.GPull (hr.mono (by decide)) rfl G.gPull G.kPull G.bPull .nil pass0 (pa_cons (pv 1) (pa_cons (pe_op op_pow pe_int pe_int) pa_nil)))))
      (pss_cons (ps_set (i := 9) scW.nd rfl (Or.inl rfl) (pe_lst (pa_cons (pe_tup (pa_cons (pv 6) (pa_cons (pe_call G.GPull (hr.mono (by decide)) rfl G.gPull G.kPull G.bPull .nil pass0 (pa_cons (pv 1) (pa_cons pe_int pa_nil))) pa_nil))) (pa_cons (pe_tup (pa_cons (pe_call G.GTxt (hr.mono (by decide)) rfl G.gTxt G.kTxt G.bTxt .nil pass0 (pa_cons (pv 1) (pa_cons (pe_ix ix_tup (pv 3) pe_int (fun _ _ => rfl)) (pa_cons pe_int pa_nil)))) (pa_cons (pv 8) pa_nil))) (pa_cons (pe_tup (pa_cons pe_str (pa_cons pe_int pa_nil))) pa_nil)))))
      (pss_cons (ps_set (i := 10) scW.nd rfl (Or.inl rfl) (pe_call G.GLd (hr.mono (by decide)) rfl G.gLd G.kLd G.bLd .nil pass0 (pa_cons (pv 3) (pa_cons (pv 5) (pa_cons (pe_op op_mulS (pv 6) (pe_ix ix_tup (pe_ix ix_list (pv 9) pe_int (fun _ _ => rfl)) pe_int (fun _ _ => rfl))) pa_nil)))))
      (pss_cut (ps_for PassesOwn.never rfl (pi_range1 (by rfl) G.brange (pa_cons (pe_op op_add pe_int (pe_op op_mod (pe_callTy call_int1 (by rfl) G.T.int (by decide +kernel) (pa_cons (pe_op op_sub (pv 8) pe_int) pa_nil)) pe_int)) pa_nil)) (pg_name (i := 11) scW.nd rfl (Or.inl rfl)) (pss_one (ps_set (i := 10) scW.nd rfl (Or.inl rfl) (pe_call G.GLd (hr.mono (by decide)) rfl G.gLd G.kLd G.bLd .nil pass0 (pa_cons (pv 3) (pa_cons (pv 10) (pa_cons (pe_ix ix_tup (pe_ix ix_list (pv 9) pe_int (fun _ _ => rfl)) pe_int (fun _ _ => rfl)) pa_nil)))))))
      (pss_cons (ps_if (pt_not (pt_val (pe_call G.GSame (hr.mono (by decide)) rfl G.gSame G.kSame G.bSame .nil pass0 (pa_cons (pe_lst (pa_cons (pe_methN (pv 4) G.MC.c G.mFa G.GFa (hr.mono (by decide)) kbFaN pass0 (pa_cons (pv 9) pa_nil) (pk_cons (pv 5) pk_nil)) (pa_cons (pe_methN0 (pv 4) G.MC.c G.mFa G.GFa (hr.mono (by decide)) kbFa0 pass0 (pk_cons (pv 5) (pk_cons (pe_callTy (call_tuple_ofZ (K := K)) (by rfl) G.T.b.tup PyProof.Rows.boot_tuple (pa_cons (pv 9) pa_nil)) pk_nil))) pa_nil))) (pa_cons (pe_lst (pa_cons (pv 10) (pa_cons (pv 10) pa_nil))) pa_nil))))) (pss_one (ps_ret pe_bl)) pss_nil)
      (pss_cons (ps_set (i := 12) scW.nd rfl (Or.inl rfl) (pe_call G.GLw (hr.mono (by decide)) rfl G.gLw G.kLw G.bLw .nil pass0 (pa_cons (pv 3) pa_nil)))
      (pss_cut (ps_for PassesOwn.never rfl (pi_range1 (by rfl) G.brange (pa_cons (pe_callB call_len_seq (by rfl) G.T.len PySem.boot_len (pa_cons (pe_ix ix_tup (pv 3) pe_int (fun _ _ => rfl)) pa_nil)) pa_nil)) (pg_name (i := 13) scW.nd rfl (Or.inl rfl)) (pss_one (ps_if (pt_not (pt_val (pe_call G.GSame (hr.mono (by decide)) rfl G.gSame G.kSame G.bSame .nil pass0 (pa_cons (pe_methN0 (pv 4) G.MC.c G.mWt G.GWt (hr.mono (by decide)) kbWt0 pass0 (pk_cons (pv 13) pk_nil)) (pa_cons (pe_dget2 hu (pv 12) (pv 13) pe_non ⟨rfl, rfl, rfl, rfl⟩) pa_nil))))) (pss_one (ps_ret pe_bl)) pss_nil)))
      (pss_cons (ps_asg (pe_tup (pa_cons (pe_call G.GOdw (hr.mono (by decide)) rfl G.gOdw G.kOdw G.bOdw .nil pass0 (pa_cons (pv 1) (pa_cons (pe_ix ix_tup (pv 3) pe_int (fun _ _ => rfl)) pa_nil))) (pa_cons (pe_call G.GOds (hr.mono (by decide)) rfl G.gOds G.kOds G.bOds .nil pass0 (pa_cons (pv 1) (pa_cons (pe_callB call_len_seq (by rfl) G.T.len PySem.boot_len (pa_cons (pe_ix ix_tup (pv 3) pe_int (fun _ _ => rfl)) pa_nil)) pa_nil))) (pa_cons (pe_call G.GOdc (hr.mono (by decide)) rfl G.gOdc G.kOdc G.bOdc .nil pass0 (pa_cons (pv 1) pa_nil)) pa_nil)))) (pg_tup (by rfl) (pgs_cons (pg_name (i := 14) scW.nd rfl (Or.inr rfl)) (pgs_cons (pg_name (i := 15) scW.nd rfl (Or.inr rfl)) (pgs_cons (pg_name (i := 16) scW.nd rfl (Or.inr rfl)) pgs_nil)))))
      (pss_cons (ps_set (i := 17) scW.nd rfl (Or.inl rfl) (pe_lst (pa_cons (pe_lam0 TB rfl (List.mem_singleton_self _) (lam_u _ _) (lamW (by decide +kernel)) rfl rfl) pa_nil)))
      (pss_cons (ps_set (i := 17) scW.nd rfl (Or.inl rfl) (pe_op op_cat (pv 17) (pe_lst (pa_cons (pe_lam1 TB rfl (List.mem_singleton_self _) (lam_u _ _) (lamW (by decide +kernel)) rfl rfl pe_int) (pa_cons (pe_lam1 TB rfl (List.mem_singleton_self _) (lam_u _ _) (lamW (by decide +kernel)) rfl rfl pe_int) pa_nil)))))
      (pss_cons (ps_set (i := 17) scW.nd rfl (Or.inl rfl) (pe_op op_cat (pv 17) (pe_lst (pa_cons (pe_lam0 TB rfl (List.mem_singleton_self _) (lam_u _ _) (lamW (by decide +kernel)) rfl rfl) pa_nil))))
      (pss_cons (ps_set (i := 17) scW.nd rfl (Or.inl rfl) (pe_op op_cat (pv 17) (pe_lst (pa_cons (pe_lam1 TB rfl (List.mem_singleton_self _) (lam_u _ _) (lamW (by decide +kernel)) rfl rfl pe_int) pa_nil))))
      (pss_cons (ps_set (i := 17) scW.nd rfl (Or.inl rfl) (pe_op op_cat (pv 17) (pe_lst (pa_cons (pe_lam1 TB rfl (List.mem_singleton_self _) (lam_u _ _) (lamW (by decide +kernel)) rfl rfl pe_int) pa_nil))))
      (pss_cons (ps_set (i := 17) scW.nd rfl (Or.inl rfl) (pe_op op_cat (pv 17) (pe_lst (pa_cons (pe_lam1 TB rfl (List.mem_singleton_self _) (lam_u _ _) (lamW (by decide +kernel)) rfl rfl pe_int) pa_nil))))
      (pss_cons (ps_set (i := 18) scW.nd rfl (Or.inl rfl) (pe_lst (pa_cons (pe_tup (pa_cons pe_str (pa_cons (pv 15) pa_nil))) (pa_cons (pe_tup (pa_cons pe_str (pa_cons (pv 14) pa_nil))) (pa_cons (pe_tup (pa_cons pe_str (pa_cons (pv 15) pa_nil))) pa_nil)))))
      (pss_cons (ps_set (i := 18) scW.nd rfl (Or.inl rfl) (pe_op op_cat (pv 18) (pe_lst (pa_cons (pe_tup (pa_cons pe_str (pa_cons (pv 15) pa_nil))) (pa_cons (pe_tup (pa_cons pe_str (pa_cons (pv 14) pa_nil))) pa_nil)))))
      (pss_one (ps_if (pt_not (pt_val (pe_call G.GSame (hr.mono (by decide)) rfl G.gSame G.kSame G.bSame .nil pass0 (pa_cons (pe_callB (kk := 10) (E := E0) G.GTries (hr.mono (by decide)) rfl G.gTries G.kTries G.bTries .nil pass0 (fun _ => rfl) (pa_cons (pv 17) pa_nil)) (pa_cons (pe_op op_cat (pv 18) (pe_lst (pa_cons (pe_tup (pa_cons pe_str (pa_cons (pv 16) pa_nil))) (pa_cons (pe_tup (pa_cons pe_str (pa_cons pe_int pa_nil))) pa_nil)))) pa_nil))))) (pss_one (ps_ret pe_bl)) pss_nil)))))))))))))))))))))))
      (pss_one (ps_ret (pe_cmpR op_eq (pe_meth (pv 4) G.MC.c G.mFa G.GFa (hr.mono (by decide)) G.bFa G.vFa pass0 (pa_cons (pe_lst (pa_cons (pe_tup (pa_cons pe_str (pa_cons (pe_op op_pow pe_int pe_int) pa_nil))) pa_nil)) pa_nil)) pe_int (nomark _)))))), ?_⟩
    have es0 : L2.start (["_law_script", "_law_bag_here", "_law_turn", "_law_model", "_law_machine_here", "_law_state_z", "_law_word_z", "_law_goal_here", "_law_great", "_law_parts_z", "_law_end", "_law_k", "_law_words", "_law_one", "_law_bad", "_law_odd", "_law_far", "_law_asks", "_law_due"] : List Str) [V.ref a] = [some (V.ref a), none, none, none, none, none, none, none, none, none, none, none, none, none, none, none, none, none, none] := rfl
    rw [es0]
    clear es0
    refine ⟨_, rfl, a, ns, rfl, hS, hl, fun b l zs Ha sm nb nl B => ?_⟩
    have hTa : Tabs (TL PT) (dl b Ha) := tabs_dl B (hT.ext sm)
    clear nb nl sm hS hT
    dsimp only [List.set, gName]
    refine ⟨fun σ' H' => ∃ (s : Addr) (x : Str) (rows : List (List Nat)), σ'[4]? = some (some (.ref s)) ∧ x ∈ five5 ∧ RowsOk x rows ∧ IsM K (cM K) (dl b H') s x rows, ⟨6, rfl, by decide, by decide, ?_⟩, ?_⟩
    case refine_2 =>
      rintro σ' H' ⟨s, x, rows, h4, x5, ro, im⟩
      refine q_retV ?_
      have im1 := sqt_ex im dl_ex
      obtain ⟨dx, r, d, hs, _⟩ := id im1
      refine ⟨_, h4, s, dx, _, rfl, hs, rfl, 10, 30, rfl, rfl, ⟨by decide, by decide, by decide⟩, (by show 2 ≤ sizeLine; decide), fun T1 hT1 => ⟨(by show 1 ≤ sizeLine; decide), fun P hP => ?_⟩⟩
      have p30 : (10 : Int) ^ (30 : Int).toNat = ((10 ^ 30 : Nat) : Int) := by decide
      have e1 := Ex.new (o := .tup [V.str (Str.ofString ""), V.int ((10 : Int) ^ (30 : Int).toNat)]) hT1
      have e2 := Ex.new (o := .lst [V.ref T1]) hP
      refine ⟨s, P, x, rows, 0, [("", 10 ^ 30)], rfl, sqt_ex im1 (e1.trans e2), x5, ro, ro.one, ⟨[T1], .inl upd_same, rfl, fun i a w n ha hw => ?_⟩, by simp, fun H7 e7 => ?_⟩
      · match i, ha, hw with
        | 0, ha, hw => cases ha; cases hw; exact ⟨by rw [← p30]; exact e2 _ _ upd_same, wo_nil x, Nat.le_refl _⟩
      · have z : farN x rows [("", 10 ^ 30)] 0 = 0 := itw_nil (10 ^ 30) 0
        rw [z]
        exact (rv_eq (x := V.int ((0 : Nat) : Int)) (y := V.int 0) (H := H7) rfl) H7 (Ex.refl _) _ fun H8 e8 => k H8
    refine for_range (n := 6) (fun i σ' H' => ∃ u2 u3 u4 u5 u6 u7 u8 u9 u10 u11 u12 u13 u14 u15 u16 u17 u18 : Option V, σ' = [some (.ref a), some (.ref b), u2, u3, u4, u5, u6, u7, u8, u9, u10, u11, u12, u13, u14, u15, u16, u17, u18] ∧ Bag H' b l zs ∧ Tabs (TL PT) (dl b H') ∧ (0 < i → ∃ (s : Addr) (x : Str) (rows : List (List Nat)), u4 = some (.ref s) ∧ x ∈ five5 ∧ RowsOk x rows ∧ IsM K (cM K) (dl b H') s x rows)) ⟨none, none, none, none, none, none, none, none, none, none, none, none, none, none, none, none, none, rfl, B, hTa, fun h => absurd h (Nat.lt_irrefl 0)⟩ ?_ ?_
    case refine_2 =>
      rintro σ' H' ⟨u2, u3, u4, u5, u6, u7, u8, u9, u10, u11, u12, u13, u14, u15, u16, u17, u18, rfl, _, _, hm⟩
      obtain ⟨s, x, rows, rfl, h⟩ := hm (by decide)
      exact ⟨s, x, rows, rfl, h⟩
    rintro i0 σ' H' hi0 ⟨u2, u3, u4, u5, u6, u7, u8, u9, u10, u11, u12, u13, u14, u15, u16, u17, u18, rfl, hB, hT, _⟩
    clear B hTa
    dsimp only [List.set, gName]
    refine ⟨_, rfl, _, rfl, b, l, zs, rfl, hB, fun x H1 x5 hB1 x1 => ⟨_, rfl, b, l, zs, 6, rfl, by decide, by decide, hB1, fun r H2 r0 r1 hB2 h2 => ⟨1, r, rfl, rfl, ?_⟩⟩⟩
    obtain ⟨n, hn⟩ : ∃ n : Nat, 1 + r = (n : Int) := ⟨(1 + r).toNat, by omega⟩
    refine ⟨b, l, zs, x, n, (by show [V.ref b, V.str x, V.int (1 + r)] = _; rw [hn]), by omega, by omega, x5, hB2, fun m rows H3 rl hrow mo hB3 e3 => ?_⟩
    have ro : RowsOk x rows := ⟨by omega, by omega, fun row h => (hrow row h).1, fun row h g hg => by rw [rl]; exact (hrow row h).2 g hg⟩
    have ax := alpha5 x x5
    have n6 : rows.length ≤ 6 := by omega
    have n1 : 1 ≤ rows.length := ro.one
    have x3 := ax.three
    have xl : x.length = (sg x).length := by simp [Str.length, sg]
    have hT3 := hT.ext (dl_exB ((x1.trans (But.exB h2)).trans e3))
    clear e3 h2 hB2 x1 hB1 hB hT hrow hn
    dsimp only [List.set, gName]
    -- the machine, a state, a word
    refine ⟨_, rfl, m, x, rows, rfl, mo, ax, ro, fun s H4 hs e4 im => ?_⟩
    have B4 := bag_ex hB3 e4
    have f3 : F3 K (cM K) b l m s (TL PT) zs x rows H4 := ⟨B4, hT3.ext (dl_up e4), mod_exB (mod_ex mo e4) B4 exB_dl, ism_exB im B4 exB_dl⟩
    clear B4 hs e4 im mo hT3 hB3
    refine ⟨_, rfl, (ev_lenM3 rfl f3.mo) H4 dl_ex _ fun H5 e5 => ⟨b, l, zs, _, rfl, by omega, by omega, bag_ex f3.B e5, fun r2 H6 r20 r21 B6 h6 => ?_⟩⟩
    replace f3 := (f3.ex e5).stp B6 (dl_but h6)
    clear e5 B6 h6
    obtain ⟨st, rfl⟩ : ∃ st : Nat, r2 = (st : Int) := ⟨r2.toNat, by omega⟩
    have sl : st < rows.length := by omega
    refine ⟨_, rfl, (mod_0 rfl f3.mo) H6 dl_ex _ fun H7 e7 => ⟨b, l, zs, x, 6, rfl, x5, by decide, bag_ex f3.B e7, fun wd H8 wo wl B8 e8 => ?_⟩⟩
    replace f3 := (f3.ex e7).stp B8 (dl_exB e8)
    clear e7 B8 e8
    refine ⟨(by show 3 ≤ sizeLine; decide), fun T2 hT2 => ⟨T2, _, rfl, SqT.of upd_same, rfl, _, _, rfl, _, _, rfl, _, _, rfl, rfl, ?_⟩⟩
    replace f3 := f3.ex (Ex.new (o := .tup [V.ref s, V.int (st : Int), V.str wd]) hT2)
    revert f3
    generalize upd H8 T2 (.tup [V.ref s, V.int (st : Int), V.str wd]) = H9
    intro f3
    clear hT2 r20 r21
    dsimp only [List.set, gName]
    refine ⟨_, rfl, _, rfl, _, rfl, m, x, wd, rows, st, rfl, mod_ex f3.mo dl_ex, x5, ro, wo, sl, fun H10 e10 => ?_⟩
    replace f3 := f3.ex e10
    clear e10
    dsimp only [List.set, gName]
    refine q_ifSame (n := 3) (d := .l [.f (.int (wlk x rows st (sg wd) : Int)), .f (.int (wlk x rows 0 (sg wd) : Int))])
      (vd_lst (n := 2) (vda_cons (vd_f (ev_bhN3 (fun _ _ _ => rfl) (ev_var rfl) f3.im x5 ro wo (ev_var rfl) (ev_var rfl) sl) True.intro) (vda_cons (vd_f (ev_bh03 (st := 0) (fun _ _ _ => rfl) (ev_var rfl) f3.im x5 ro wo (ev_var rfl) ev_c n1) True.intro) vda_nil)) (by simp))
      (vd_lst (n := 2) (vda_cons (vd_f (ev_var rfl) True.intro) (vda_cons (vd_f (ev_ld3 (st := 0) (ev_var rfl) f3.mo x5 ro wo ev_c n1 (ev_var rfl)) True.intro) vda_nil)) (by simp)) (bag_some f3.B) fun H11 e11 => ?_
    replace f3 := f3.ex e11
    clear e11
    -- great
    refine ⟨10, 30, rfl, rfl, ⟨by decide, by decide, by decide⟩, _, rfl, 10, 6, rfl, rfl, ⟨by decide, by decide, by decide⟩, b, l, zs, _, rfl, by decide, by decide, f3.B, fun r3 H12 r30 r31 B12 h12 => ⟨_, _, rfl, rfl, ?_⟩⟩
    have r32 : r3 < 1000000 := r31
    obtain ⟨gN, hg, hg2, hg8⟩ : ∃ gN : Nat, (10 : Int) ^ (30 : Int).toNat - r3 = (gN : Int) ∧ gN ≤ 10 ^ 30 ∧ 8 ≤ gN := by
      have p30 : (10 : Int) ^ (30 : Int).toNat = 1000000000000000000000000000000 := by decide
      rw [p30]
      exact ⟨(1000000000000000000000000000000 - r3).toNat, by omega, by omega, by omega⟩
    dsimp only [List.set, gName]
    rw [hg]
    replace f3 := f3.stp B12 (dl_but h12)
    clear hg r30 r31 r32 B12 h12
    -- parts
    refine ⟨_, rfl, _, rfl, b, l, zs, 5, rfl, by decide, by decide, f3.B, fun r4 H13 r40 r41 B13 h13 => ⟨(by show 2 ≤ sizeLine; decide), fun T1 hT1 => ?_⟩⟩
    obtain ⟨c5, rfl⟩ : ∃ c5 : Nat, r4 = (c5 : Int) := ⟨r4.toNat, by omega⟩
    have c54 : c5 ≤ 4 := by omega
    replace f3 := f3.stp B13 (dl_but h13)
    clear r40 r41 B13 h13
    replace f3 := f3.ex (Ex.new (o := .tup [V.str wd, V.int (c5 : Int)]) hT1)
    have g1 : dl b (upd H13 T1 (.tup [V.str wd, V.int (c5 : Int)])) T1 = some (.tup [V.str wd, V.int (c5 : Int)]) := exB_dl _ _ (bag_ne f3.B upd_same (no_tup [_, _] l)) upd_same
    revert f3 g1
    generalize upd H13 T1 (.tup [V.str wd, V.int (c5 : Int)]) = H14
    intro f3 g1
    clear hT1
    refine ⟨_, rfl, (mod_0 rfl f3.mo) H14 dl_ex _ fun H15 e15 => ⟨b, l, zs, x, 3, rfl, x5, by decide, bag_ex f3.B e15, fun w2 H16 wo2 wl2 B16 e16 => ⟨_, rfl, (by show 2 ≤ sizeLine; decide), fun T2 hT2 => ?_⟩⟩⟩
    replace g1 := dl_exB e16 _ _ (dl_up e15 _ _ g1)
    replace f3 := (f3.ex e15).stp B16 (dl_exB e16)
    clear e15 B16 e16
    replace g1 := dl_up (Ex.new (o := .tup [V.str w2, V.int (gN : Int)]) hT2) _ _ g1
    replace f3 := f3.ex (Ex.new (o := .tup [V.str w2, V.int (gN : Int)]) hT2)
    have g2 : dl b (upd H16 T2 (.tup [V.str w2, V.int (gN : Int)])) T2 = some (.tup [V.str w2, V.int (gN : Int)]) := exB_dl _ _ (bag_ne f3.B upd_same (no_tup [_, _] l)) upd_same
    revert f3 g1 g2
    generalize upd H16 T2 (.tup [V.str w2, V.int (gN : Int)]) = H17
    intro g1 f3 g2
    clear hT2
    refine ⟨(by show 2 ≤ sizeLine; decide), fun T3 hT3 => ⟨(by show 3 ≤ sizeLine; decide), fun pP hP => ?_⟩⟩
    have e18 := Ex.new (o := .tup [V.str (Str.ofString ""), V.int 7]) hT3
    have e19 := Ex.new (o := .lst [V.ref T1, V.ref T2, V.ref T3]) hP
    replace f3 := f3.ex (e18.trans e19)
    replace g1 := dl_up (e18.trans e19) _ _ g1
    replace g2 := dl_up (e18.trans e19) _ _ g2
    have g3 := exB_dl (b := b) _ _ (bag_ne f3.B (e19 _ _ upd_same) (no_tup [_, _] l)) (e19 _ _ upd_same)
    have g4 := exB_dl (b := b) _ _ (bag_ne f3.B upd_same (no_rows [T1, T2, T3] l)) (upd_same (H := upd H17 T3 (.tup [V.str (Str.ofString ""), V.int 7])) (a := pP) (o := .lst [V.ref T1, V.ref T2, V.ref T3]))
    revert f3 g1 g2 g3 g4
    generalize upd (upd H17 T3 (.tup [V.str (Str.ofString ""), V.int 7])) pP (.lst [V.ref T1, V.ref T2, V.ref T3]) = H20
    intro f3 g1 g2 g3 g4
    clear e18 e19 hT3 hP
    have wo0 : WordOk x "" := wo_nil x
    have hps : PartsL (dl b H20) x pP [(wd, c5), (w2, gN), ("", 7)] := ⟨[T1, T2, T3], g4, rfl, fun i a w n ha hw => by
      match i, ha, hw with
      | 0, ha, hw => cases ha; cases hw; exact ⟨g1, wo, by omega⟩
      | 1, ha, hw => cases ha; cases hw; exact ⟨g2, wo2, hg2⟩
      | 2, ha, hw => cases ha; cases hw; exact ⟨g3, wo0, by omega⟩⟩
    dsimp only [List.set, gName]
    have wm := wo_mul wo wl c54
    refine q_asgV ((ev_ld3 (ev_var rfl) f3.mo x5 ro wm (ev_var rfl) sl (ev_op (ev_var rfl) (ev_op (ev_op (ev_var rfl) ev_c (rv_ixL (K := K) (SqL.of g4) (atI_nat (j := 0) rfl))) ev_c (rv_ixT (K := K) (SqT.of g1) (atI_nat (j := 1) rfl))) (rv_mulS (by omega) (by omega)))) H20 dl_ex _ fun H21 e21 => ?_)
    rw [wlk_mul]
    replace f3 := f3.ex e21
    replace hps := hps.ex (dl_up e21)
    replace g2 := dl_up e21 _ _ g2
    replace g4 := dl_up e21 _ _ g4
    clear wm g1 g3 e21
    dsimp only [List.set, gName]
    have l0 : (itw x rows (sg wd) c5 st) < rows.length := itw_lt ro wo.of sl c5
    -- the far way, step by step
    refine ⟨fun σ' H' => (∃ u11 : Option V, σ' = [some (.ref a), some (.ref b), some (.int (0 + (i0 : Int))), some (.ref m), some (.ref s), some (.int (st : Int)), some (.str wd), some (.int (wlk x rows st (sg wd) : Int)), some (.int (gN : Int)), some (.ref pP), some (.int (itw x rows (sg w2) (8 + (gN - 8) % 2520) (itw x rows (sg wd) c5 st) : Int)), u11, u12, u13, u14, u15, u16, u17, u18]) ∧ F3 K (cM K) b l m s (TL PT) zs x rows H' ∧ PartsL (dl b H') x pP [(wd, c5), (w2, gN), ("", 7)] ∧ dl b H' T2 = some (.tup [.str w2, .int (gN : Int)]) ∧ dl b H' pP = some (.lst [.ref T1, .ref T2, .ref T3]), ?_, ?_⟩
    · have evN : Ev (tOp (rI0 fun i j => V.int (i + j)) (tC (V.int 8)) (tOp (rI (fun x j => 0 < j) fun i j => V.int (i % j)) (tCB (fun xs H Q => (∃ i, xs = [V.int i] ∧ Q (V.int i) H) ∨ ∃ k, xs = [V.bl k] ∧ Q (V.int (if k = true then 1 else 0)) H) (tCons (tOp (rI0 fun i j => V.int (i - j)) (tVar 8) (tC (V.int 8))) tNil)) (tC (V.int 2520)))) [some (.ref a), some (.ref b), some (.int (0 + (i0 : Int))), some (.ref m), some (.ref s), some (.int (st : Int)), some (.str wd), some (.int (wlk x rows st (sg wd) : Int)), some (.int (gN : Int)), some (.ref pP), some (.int ((itw x rows (sg wd) c5 st) : Int)), u11, u12, u13, u14, u15, u16, u17, u18] H21 (.int (((8 + (gN - 8) % 2520) : Nat) : Int)) := ev_is (ev_op ev_c (ev_modI5 (n := 2520) (ev_intI5 (ev_op (ev_var rfl) ev_c rv_I0)) ev_c (by decide)) rv_I0) (congrArg V.int (by omega))
      refine evN H21 (Ex.refl _) _ fun H22 e22 => ⟨(((8 + (gN - 8) % 2520) : Nat) : Int), rfl, by omega, by omega, ?_⟩
      replace f3 := f3.ex e22
      replace hps := hps.ex (dl_up e22)
      replace g2 := dl_up e22 _ _ g2
      replace g4 := dl_up e22 _ _ g4
      refine for_range (n := (8 + (gN - 8) % 2520)) (fun i σ' H' => (∃ u11 : Option V, σ' = [some (.ref a), some (.ref b), some (.int (0 + (i0 : Int))), some (.ref m), some (.ref s), some (.int (st : Int)), some (.str wd), some (.int (wlk x rows st (sg wd) : Int)), some (.int (gN : Int)), some (.ref pP), some (.int (itw x rows (sg w2) i (itw x rows (sg wd) c5 st) : Int)), u11, u12, u13, u14, u15, u16, u17, u18]) ∧ F3 K (cM K) b l m s (TL PT) zs x rows H' ∧ PartsL (dl b H') x pP [(wd, c5), (w2, gN), ("", 7)] ∧ dl b H' T2 = some (.tup [.str w2, .int (gN : Int)]) ∧ dl b H' pP = some (.lst [.ref T1, .ref T2, .ref T3])) ⟨⟨_, rfl⟩, f3, hps, g2, g4⟩ ?_ (fun _ _ h => h)
      clear f3 hps g2 g4 e22
      rintro i σ' H' hi ⟨⟨u11, rfl⟩, f3, hps, g2, g4⟩
      dsimp only [List.set, gName]
      refine (ev_ld3 (st := itw x rows (sg w2) i (itw x rows (sg wd) c5 st)) (ev_var rfl) f3.mo x5 ro wo2 (ev_var rfl) (itw_lt ro wo2.of l0 i) (ev_op (ev_op (ev_var rfl) ev_c (rv_ixL (K := K) (SqL.of g4) (atI_nat (j := 1) rfl))) ev_c (rv_ixT (K := K) (SqT.of g2) (atI_nat (j := 0) rfl)))) H' dl_ex _ fun H23 e23 => ⟨⟨some (.int (0 + (i : Int))), ?_⟩, f3.ex e23, hps.ex (dl_up e23), dl_up e23 _ _ g2, dl_up e23 _ _ g4⟩
      rw [← itw_succ]
      rfl
    clear f3 hps g2 g4
    rintro σ' H24 ⟨⟨u11, rfl⟩, f3, hps, g2, g4⟩
    have zf : farN x rows [(wd, c5), (w2, gN), ("", 7)] st = itw x rows (sg w2) (8 + (gN - 8) % 2520) (itw x rows (sg wd) c5 st) := by
      rw [itw_big ro n6 wo2.of l0 hg8]
      show itw x rows (sg (Str.ofString "")) 7 _ = _
      rw [show sg (Str.ofString "") = [] from rfl]
      exact itw_nil 7 _
    refine q_ifSame (n := 3) (d := .l [.f (.int (itw x rows (sg w2) (8 + (gN - 8) % 2520) (itw x rows (sg wd) c5 st) : Int)), .f (.int (itw x rows (sg w2) (8 + (gN - 8) % 2520) (itw x rows (sg wd) c5 st) : Int))])
      (vd_lst (n := 2) (vda_cons (vd_f (ev_is (ev_faN3 (fun _ _ _ => rfl) (ev_var rfl) f3.im x5 ro hps.parts (by simp) (ev_var rfl) (ev_var rfl) sl) (by rw [zf])) True.intro) (vda_cons (vd_f (ev_is (ev_fa03 (ps := [(wd, c5), (w2, gN), ("", 7)]) (fun _ _ _ => rfl) (ev_var rfl) f3.im x5 ro (by simp) (fun H1 e1 Q q => ?_) (ev_var rfl) sl) (by rw [zf])) True.intro) vda_nil)) (by simp))
      (vd_lst (n := 2) (vda_cons (vd_f (ev_var (i := 10) rfl) True.intro) (vda_cons (vd_f (ev_var (i := 10) rfl) True.intro) vda_nil)) (by simp)) (bag_some f3.B) fun H25 e25 => ?_
    · have hp1 := hps.ex e1
      obtain ⟨as, hq, al, hit⟩ := hp1
      exact ⟨_, rfl, pP, as.map V.ref, rfl, SqL.of hq, fun p2 H2 _ e2 hT => q p2 H2 e2 ⟨as, .inr hT, al, fun i a w n p q => ⟨e2 _ _ (hit i a w n p q).1, (hit i a w n p q).2⟩⟩⟩
    replace f3 := f3.ex e25
    clear e25 zf hps g2 g4
    -- words
    refine ⟨_, rfl, m, x, rows, rfl, mod_ex f3.mo dl_ex, x5, ro, fun H26 dd hdd e26 hD => ?_⟩
    replace f3 := f3.ex e26
    have g5 := exB_dl (b := b) _ _ (bag_ne f3.B hD (fun _ _ _ z => by cases z)) hD
    clear hdd e26 hD
    dsimp only [List.set, gName]
    refine ⟨fun σ' H' => (∃ u13 : Option V, σ' = [some (.ref a), some (.ref b), some (.int (0 + (i0 : Int))), some (.ref m), some (.ref s), some (.int (st : Int)), some (.str wd), some (.int (wlk x rows st (sg wd) : Int)), some (.int (gN : Int)), some (.ref pP), some (.int (itw x rows (sg w2) (8 + (gN - 8) % 2520) (itw x rows (sg wd) c5 st) : Int)), u11, some (.ref dd), u13, u14, u15, u16, u17, u18]) ∧ F3 K (cM K) b l m s (TL PT) zs x rows H' ∧ dl b H' dd = some (.dK (dkv (roads x rows))), ?_, ?_⟩
    · have evL := ev_lenM3 (K := K) (σ := [some (.ref a), some (.ref b), some (.int (0 + (i0 : Int))), some (.ref m), some (.ref s), some (.int (st : Int)), some (.str wd), some (.int (wlk x rows st (sg wd) : Int)), some (.int (gN : Int)), some (.ref pP), some (.int (itw x rows (sg w2) (8 + (gN - 8) % 2520) (itw x rows (sg wd) c5 st) : Int)), u11, some (.ref dd), u13, u14, u15, u16, u17, u18]) (i := 3) rfl f3.mo
      refine irng_ev evL dl_ex (by omega) fun H27 e27 => ?_
      refine for_range (n := rows.length) (fun i σ' H' => (∃ u13 : Option V, σ' = [some (.ref a), some (.ref b), some (.int (0 + (i0 : Int))), some (.ref m), some (.ref s), some (.int (st : Int)), some (.str wd), some (.int (wlk x rows st (sg wd) : Int)), some (.int (gN : Int)), some (.ref pP), some (.int (itw x rows (sg w2) (8 + (gN - 8) % 2520) (itw x rows (sg wd) c5 st) : Int)), u11, some (.ref dd), u13, u14, u15, u16, u17, u18]) ∧ F3 K (cM K) b l m s (TL PT) zs x rows H' ∧ dl b H' dd = some (.dK (dkv (roads x rows)))) ⟨⟨_, rfl⟩, f3.ex e27, dl_up e27 _ _ g5⟩ ?_ (fun _ _ h => h)
      clear f3 g5 e27
      rintro i σ' H' hi ⟨⟨u13, rfl⟩, f3, g5⟩
      dsimp only [List.set, gName]
      exact q_ifSameL (n := 3) (d := .f (roadV x rows i)) (vd_f (ev_wt3 (fun _ _ => rfl) (ev_var rfl) f3.im (ev_is (ev_var rfl) (congrArg V.int (by omega))) hi) (road_flat x rows i)) (vd_f (ev_get3 (ev_var rfl) g5 (ev_is (ev_var rfl) (congrArg V.int (by omega)))) (road_flat x rows i)) (bag_some f3.B) fun H28 e28 => ⟨⟨_, rfl⟩, f3.ex e28, dl_up e28 _ _ g5⟩
    clear f3 g5
    rintro σ' H29 ⟨⟨u13, rfl⟩, f3, _⟩
    -- odd values
    refine ⟨_, rfl, (mod_0 rfl f3.mo) H29 dl_ex _ fun H30 e30 => ⟨b, l, zs, x, rfl, by omega, bag_ex f3.B e30, fun v14 d14 H31 m14 h14 B31 e31 => ?_⟩⟩
    replace f3 := (f3.ex e30).stp B31 e31
    clear e30 B31 e31
    refine ⟨_, rfl, (ev_lenM3 rfl f3.mo) H31 dl_ex _ fun H32 e32 => ⟨b, l, zs, rows.length, rfl, bag_ex f3.B e32, fun v15 d15 H33 m15 h15 B33 e33 => ?_⟩⟩
    replace h14 := h14.ex ((dl_up e32).trans e33)
    replace f3 := (f3.ex e32).stp B33 e33
    clear e32 B33 e33
    refine ⟨_, rfl, b, l, zs, rfl, f3.B, fun v16 d16 H34 m16 h16 B34 e34 => ?_⟩
    replace h14 := h14.ex e34
    replace h15 := h15.ex e34
    replace f3 := f3.stp B34 e34
    clear B34 e34
    refine ⟨(by show 3 ≤ sizeLine; decide), fun T4 hT4 => ⟨T4, _, rfl, SqT.of upd_same, rfl, _, _, rfl, _, _, rfl, _, _, rfl, rfl, ?_⟩⟩
    have e35 := Ex.new (o := .tup [v14, v15, v16]) hT4
    replace h14 := h14.ex (dl_up (b := b) e35)
    replace h15 := h15.ex (dl_up (b := b) e35)
    replace h16 := h16.ex (dl_up (b := b) e35)
    replace f3 := f3.ex e35
    revert f3 h14 h15 h16
    generalize upd H34 T4 (.tup [v14, v15, v16]) = H36
    intro h14 h15 h16 f3
    clear e35 hT4
    dsimp only [List.set, gName]
    -- lambdas
    refine q_asgV (lams1 f3.B f3.t fun pA lf0 lc0 dV0 H7 e7 B7 T7 hA a0 => ?_)
    replace f3 := f3.xN B7 T7 e7
    replace h14 := h14.extN e7
    replace h15 := h15.extN e7
    replace h16 := h16.extN e7
    clear e7 B7 T7
    dsimp only [List.set, gName]
    refine q_asgV (lamsC2 rfl hA (by simp) f3.B f3.t fun pA lf1 lc1 lf2 lc2 dV1 dV2 H7 e7 B7 T7 hA a1 a2 => ?_)
    replace f3 := f3.xN B7 T7 e7
    replace h14 := h14.extN e7
    replace h15 := h15.extN e7
    replace h16 := h16.extN e7
    replace a0 := a0.ext e7
    clear e7 B7 T7
    dsimp only [List.set, gName, List.cons_append, List.nil_append] at hA ⊢
    refine q_asgV (lamsC1 rfl hA (by simp) f3.B f3.t fun pA lf3 lc3 dV3 H7 e7 B7 T7 hA a3 => ?_)
    replace f3 := f3.xN B7 T7 e7
    replace h14 := h14.extN e7
    replace h15 := h15.extN e7
    replace h16 := h16.extN e7
    replace a0 := a0.ext e7
    replace a1 := a1.ext e7
    replace a2 := a2.ext e7
    clear e7 B7 T7
    dsimp only [List.set, gName, List.cons_append, List.nil_append] at hA ⊢
    refine q_asgV (lamsC1 rfl hA (by simp) f3.B f3.t fun pA lf4 lc4 dV4 H7 e7 B7 T7 hA a4 => ?_)
    replace f3 := f3.xN B7 T7 e7
    replace h14 := h14.extN e7
    replace h15 := h15.extN e7
    replace h16 := h16.extN e7
    replace a0 := a0.ext e7
    replace a1 := a1.ext e7
    replace a2 := a2.ext e7
    replace a3 := a3.ext e7
    clear e7 B7 T7
    dsimp only [List.set, gName, List.cons_append, List.nil_append] at hA ⊢
    refine q_asgV (lamsC1 rfl hA (by simp) f3.B f3.t fun pA lf5 lc5 dV5 H7 e7 B7 T7 hA a5 => ?_)
    replace f3 := f3.xN B7 T7 e7
    replace h14 := h14.extN e7
    replace h15 := h15.extN e7
    replace h16 := h16.extN e7
    replace a0 := a0.ext e7
    replace a1 := a1.ext e7
    replace a2 := a2.ext e7
    replace a3 := a3.ext e7
    replace a4 := a4.ext e7
    clear e7 B7 T7
    dsimp only [List.set, gName, List.cons_append, List.nil_append] at hA ⊢
    refine q_asgV (lamsC1 rfl hA (by simp) f3.B f3.t fun pA lf6 lc6 dV6 H7 e7 B7 T7 hA a6 => ?_)
    replace f3 := f3.xN B7 T7 e7
    replace h14 := h14.extN e7
    replace h15 := h15.extN e7
    replace h16 := h16.extN e7
    replace a0 := a0.ext e7
    replace a1 := a1.ext e7
    replace a2 := a2.ext e7
    replace a3 := a3.ext e7
    replace a4 := a4.ext e7
    replace a5 := a5.ext e7
    clear e7 B7 T7
    dsimp only [List.set, gName, List.cons_append, List.nil_append] at hA ⊢
    refine q_asgD (n := 3) (d := .l [.t [.f (.str "InvalidState"), d15], .t [.f (.str "InvalidWord"), d14], .t [.f (.str "InvalidState"), d15]]) (vd_lst (n := 2) (vda_cons (vd_tup (n := 1) (vda_cons vd_c (vda_cons (vd_var (i := 15) rfl h15) vda_nil)) (by simp)) (vda_cons (vd_tup (n := 1) (vda_cons vd_c (vda_cons (vd_var (i := 14) rfl h14) vda_nil)) (by simp)) (vda_cons (vd_tup (n := 1) (vda_cons vd_c (vda_cons (vd_var (i := 15) rfl h15) vda_nil)) (by simp)) vda_nil))) (by simp)) (bag_some f3.B) fun v9 H8 e8 h9 => ?_
    replace f3 := f3.ex e8
    replace hA := dl_up (b := b) e8 _ _ hA
    replace h14 := h14.ex (dl_up (b := b) e8)
    replace h15 := h15.ex (dl_up (b := b) e8)
    replace h16 := h16.ex (dl_up (b := b) e8)
    replace a0 := a0.ex (dl_up e8)
    replace a1 := a1.ex (dl_up e8)
    replace a2 := a2.ex (dl_up e8)
    replace a3 := a3.ex (dl_up e8)
    replace a4 := a4.ex (dl_up e8)
    replace a5 := a5.ex (dl_up e8)
    replace a6 := a6.ex (dl_up e8)
    clear e8
    dsimp only [List.set, gName]
    refine q_asgD (n := 3) (d := .l [.t [.f (.str "InvalidState"), d15], .t [.f (.str "InvalidWord"), d14], .t [.f (.str "InvalidState"), d15], .t [.f (.str "InvalidState"), d15], .t [.f (.str "InvalidWord"), d14]]) (VD.cast (vd_cat (n := 2) (vd_var rfl h9) (vd_lst (n := 2) (vda_cons (vd_tup (n := 1) (vda_cons vd_c (vda_cons (vd_var (i := 15) rfl h15) vda_nil)) (by simp)) (vda_cons (vd_tup (n := 1) (vda_cons vd_c (vda_cons (vd_var (i := 14) rfl h14) vda_nil)) (by simp)) vda_nil)) (by simp)) (by simp)) rfl) (bag_some f3.B) fun v9b H8 e8 h9b => ?_
    replace f3 := f3.ex e8
    replace hA := dl_up (b := b) e8 _ _ hA
    replace h14 := h14.ex (dl_up (b := b) e8)
    replace h15 := h15.ex (dl_up (b := b) e8)
    replace h16 := h16.ex (dl_up (b := b) e8)
    replace a0 := a0.ex (dl_up e8)
    replace a1 := a1.ex (dl_up e8)
    replace a2 := a2.ex (dl_up e8)
    replace a3 := a3.ex (dl_up e8)
    replace a4 := a4.ex (dl_up e8)
    replace a5 := a5.ex (dl_up e8)
    replace a6 := a6.ex (dl_up e8)
    clear e8 h9
    dsimp only [List.set, gName]
    obtain ⟨y0, g0, R0, A0⟩ := ask_mk (X := XL P w K mg base f c A outer s0 H E) (n := 2) (kk := 10) (C1 := He.ga K "TeamError") (C2 := He.ga K "Missing") (C3 := He.ga K "NothingLeft") (d := .t [.f (.str "InvalidState"), d15]) [some (.ref a), some (.ref b), some (.int (0 + (i0 : Int))), some (.ref m), some (.ref s), some (.int (st : Int)), some (.str wd), some (.int (wlk x rows st (sg wd) : Int)), some (.int (gN : Int)), some (.ref pP), some (.int (itw x rows (sg w2) (8 + (gN - 8) % 2520) (itw x rows (sg wd) c5 st) : Int)), u11, some (.ref dd), u13, some v14, some v15, some v16, some (.ref pA), some v9b] a0 (LamTold.mk (lamW (by decide +kernel)) (.no rfl (fun _ _ _ _ _ _ => rfl)) fun b1 A1 o1 s1 H1 E1 f1 c1 hr1 => (pe_methN (pe_var (i := 4) rfl (.inr (.inr rfl))) G.MC.c G.mBh (G.XBh b1) (hr1.mono (by decide)) kbBhN (passes_call (E := E1) (takes_of rfl rfl rfl rfl) (fun _ _ _ _ h => h)) (pa_cons (pe_var (i := 14) rfl (.inr (.inr rfl))) pa_nil) (pk_cons (pe_var (i := 15) rfl (.inr (.inr rfl))) pk_nil))) (ask_rz (n := 1) (pn := "given") a0 G.eS (fun _ => rfl) (by decide) (fun H' Q E e r => mN_X (P := fun v _ => v = v14) (fun _ _ _ => rfl) rfl (sqt_ex f3.im e) (fun _ _ => rfl) (fun Q2 q2 => ⟨_, rfl, q2 v14 _ (Ex.refl _) rfl⟩) rfl fun v H1 e1 pv => ⟨s, x, rows, v, v15, rfl, (sqt_ex f3.im (e.trans e1)), .inl ⟨((odd_ix24 (by omega) d15 m15) ▸ ixOf_has (h15.ex (e.trans e1))), d15, h15.ex (e.trans e1), r.ex e1⟩⟩))
    obtain ⟨y1, g1, R1, A1⟩ := ask_mk (X := XL P w K mg base f c A outer s0 H E) (n := 2) (kk := 10) (C1 := He.ga K "TeamError") (C2 := He.ga K "Missing") (C3 := He.ga K "NothingLeft") (d := .t [.f (.str "InvalidWord"), d14]) [some (.ref a), some (.ref b), some (.int (0 + (i0 : Int))), some (.ref m), some (.ref s), some (.int (st : Int)), some (.str wd), some (.int (wlk x rows st (sg wd) : Int)), some (.int (gN : Int)), some (.ref pP), some (.int (itw x rows (sg w2) (8 + (gN - 8) % 2520) (itw x rows (sg wd) c5 st) : Int)), u11, some (.ref dd), u13, some v14, some v15, some v16, some (.ref pA), some v9b] a1 (LamTold.mk (lamW (by decide +kernel)) (.one "_law_a" rfl rfl (fun _ _ _ _ _ _ _ => ⟨_, rfl, fun _ => rfl⟩)) fun b1 A1 o1 s1 H1 E1 f1 c1 hr1 => (pe_meth (pe_var (i := 4) rfl (.inr (.inr rfl))) G.MC.c G.mBh (G.XBh b1) (hr1.mono (by decide)) G.bBh G.vBh (passes_call (E := E1) (takes_of rfl rfl rfl rfl) (fun _ _ _ _ h => h)) (pa_cons (pe_var (i := 14) rfl (.inr (.inr rfl))) pa_nil))) (ask_rz (n := 1) (pn := "given") a1 G.eW (fun _ => rfl) (by decide) (fun H' Q E e r => m1_X (P := fun v _ => v = v14) rfl (sqt_ex f3.im e) (fun _ _ => rfl) (fun Q2 q2 => ⟨_, rfl, q2 v14 _ (Ex.refl _) rfl⟩) fun v H1 e1 pv => ⟨s, x, rows, v, .int 0, rfl, (sqt_ex f3.im (e.trans e1)), .inr ⟨⟨0, rfl, n1⟩, pv ▸ noWd_has x5 m14 (h14.ex (e.trans e1)), d14, pv ▸ h14.ex (e.trans e1), r.ex e1⟩⟩))
    obtain ⟨y2, g2, R2, A2⟩ := ask_mk (X := XL P w K mg base f c A outer s0 H E) (n := 2) (kk := 10) (C1 := He.ga K "TeamError") (C2 := He.ga K "Missing") (C3 := He.ga K "NothingLeft") (d := .t [.f (.str "InvalidState"), d15]) [some (.ref a), some (.ref b), some (.int (0 + (i0 : Int))), some (.ref m), some (.ref s), some (.int (st : Int)), some (.str wd), some (.int (wlk x rows st (sg wd) : Int)), some (.int (gN : Int)), some (.ref pP), some (.int (itw x rows (sg w2) (8 + (gN - 8) % 2520) (itw x rows (sg wd) c5 st) : Int)), u11, some (.ref dd), u13, some v14, some v15, some v16, some (.ref pA), some v9b] a2 (LamTold.mk (lamW (by decide +kernel)) (.one "_law_b" rfl rfl (fun _ _ _ _ _ _ _ => ⟨_, rfl, fun _ => rfl⟩)) fun b1 A1 o1 s1 H1 E1 f1 c1 hr1 => (pe_meth (pe_var (i := 4) rfl (.inr (.inr rfl))) G.MC.c G.mWt (G.XWt b1) (hr1.mono (by decide)) G.bWt .nil (passes_call (E := E1) (takes_of rfl rfl rfl rfl) (fun _ _ _ _ h => h)) (pa_cons (pe_var (i := 15) rfl (.inr (.inr rfl))) pa_nil))) (ask_rz (n := 1) (pn := "given") a2 G.eS (fun _ => rfl) (by decide) (fun H' Q E e r => m0_X (P := fun v _ => v = v15) rfl (sqt_ex f3.im e) (fun _ _ => rfl) (fun Q2 q2 => ⟨_, rfl, q2 v15 _ (Ex.refl _) rfl⟩) fun v H1 e1 pv => ⟨s, x, rows, v, d15, rfl, (sqt_ex f3.im (e.trans e1)), pv ▸ ((odd_ix24 (by omega) d15 m15) ▸ ixOf_has (h15.ex (e.trans e1))), pv ▸ h15.ex (e.trans e1), r.ex e1⟩))
    obtain ⟨y3, g3, R3, A3⟩ := ask_mk (X := XL P w K mg base f c A outer s0 H E) (n := 2) (kk := 10) (C1 := He.ga K "TeamError") (C2 := He.ga K "Missing") (C3 := He.ga K "NothingLeft") (d := .t [.f (.str "InvalidState"), d15]) [some (.ref a), some (.ref b), some (.int (0 + (i0 : Int))), some (.ref m), some (.ref s), some (.int (st : Int)), some (.str wd), some (.int (wlk x rows st (sg wd) : Int)), some (.int (gN : Int)), some (.ref pP), some (.int (itw x rows (sg w2) (8 + (gN - 8) % 2520) (itw x rows (sg wd) c5 st) : Int)), u11, some (.ref dd), u13, some v14, some v15, some v16, some (.ref pA), some v9b] a3 (LamTold.mk (lamW (by decide +kernel)) (.no rfl (fun _ _ _ _ _ _ => rfl)) fun b1 A1 o1 s1 H1 E1 f1 c1 hr1 => (pe_methN (pe_var (i := 4) rfl (.inr (.inr rfl))) G.MC.c G.mFa (G.XFa b1) (hr1.mono (by decide)) kbFaN (passes_call (E := E1) (takes_of rfl rfl rfl rfl) (fun _ _ _ _ h => h)) (pa_cons (pe_lst (pa_cons (pe_tup (pa_cons (pe_var (i := 14) rfl (.inr (.inr rfl))) (pa_cons (pe_var (i := 16) rfl (.inr (.inr rfl))) pa_nil))) pa_nil)) pa_nil) (pk_cons (pe_var (i := 15) rfl (.inr (.inr rfl))) pk_nil))) (ask_rz (n := 1) (pn := "given") a3 G.eS (fun _ => rfl) (by decide) (fun H' Q E e r => mN_X (P := fun v _ => ∃ p, v = .ref p) (fun _ _ _ => rfl) rfl (sqt_ex f3.im e) (fun _ _ => rfl) (fun Q2 q2 => ⟨_, rfl, _, rfl, (by show 2 ≤ sizeLine; decide), fun T1 h1 => ⟨(by show 1 ≤ sizeLine; decide), fun p h2 => q2 _ _ ((Ex.new h1).trans (Ex.new h2)) ⟨p, rfl⟩⟩⟩) rfl fun v H1 e1 pv => by
      obtain ⟨p, rfl⟩ := pv
      exact .inr ⟨s, p, x, rows, v15, rfl, (sqt_ex f3.im (e.trans e1)), .inl ⟨((odd_ix24 (by omega) d15 m15) ▸ ixOf_has (h15.ex (e.trans e1))), d15, h15.ex (e.trans e1), r.ex e1⟩⟩))
    obtain ⟨y4, g4, R4, A4⟩ := ask_mk (X := XL P w K mg base f c A outer s0 H E) (n := 2) (kk := 10) (C1 := He.ga K "TeamError") (C2 := He.ga K "Missing") (C3 := He.ga K "NothingLeft") (d := .t [.f (.str "InvalidWord"), d14]) [some (.ref a), some (.ref b), some (.int (0 + (i0 : Int))), some (.ref m), some (.ref s), some (.int (st : Int)), some (.str wd), some (.int (wlk x rows st (sg wd) : Int)), some (.int (gN : Int)), some (.ref pP), some (.int (itw x rows (sg w2) (8 + (gN - 8) % 2520) (itw x rows (sg wd) c5 st) : Int)), u11, some (.ref dd), u13, some v14, some v15, some v16, some (.ref pA), some v9b] a4 (LamTold.mk (lamW (by decide +kernel)) (.one "_law_a" rfl rfl (fun _ _ _ _ _ _ _ => ⟨_, rfl, fun _ => rfl⟩)) fun b1 A1 o1 s1 H1 E1 f1 c1 hr1 => (pe_meth (pe_var (i := 4) rfl (.inr (.inr rfl))) G.MC.c G.mFa (G.XFa b1) (hr1.mono (by decide)) G.bFa G.vFa (passes_call (E := E1) (takes_of rfl rfl rfl rfl) (fun _ _ _ _ h => h)) (pa_cons (pe_lst (pa_cons (pe_tup (pa_cons pe_str (pa_cons pe_int pa_nil))) (pa_cons (pe_tup (pa_cons (pe_var (i := 14) rfl (.inr (.inr rfl))) (pa_cons (pe_var (i := 16) rfl (.inr (.inr rfl))) pa_nil))) (pa_cons (pe_tup (pa_cons pe_str (pa_cons (pe_un un_neg pe_int) pa_nil))) pa_nil)))) pa_nil))) (ask_rz (n := 1) (pn := "given") a4 G.eW (fun _ => rfl) (by decide) (fun H' Q E e r => m1_X (P := fun v H1 => ∃ p T1 T2 T3, v = .ref p ∧ H1 p = some (.lst [.ref T1, .ref T2, .ref T3]) ∧ H1 T1 = some (.tup [.str (Str.ofString ""), .int 0]) ∧ H1 T2 = some (.tup [v14, v16])) rfl (sqt_ex f3.im e) (fun _ _ => rfl) (fun Q2 q2 => ⟨(by show 2 ≤ sizeLine; decide), fun T1 h1 => ⟨_, rfl, _, rfl, (by show 2 ≤ sizeLine; decide), fun T2 h2 => ⟨_, rfl, (by show 2 ≤ sizeLine; decide), fun T3 h3 => ⟨(by show 3 ≤ sizeLine; decide), fun p h4 => q2 _ _ ((((Ex.new h1).trans (Ex.new h2)).trans (Ex.new h3)).trans (Ex.new h4)) ⟨p, T1, T2, T3, rfl, upd_same, (((Ex.new h2).trans (Ex.new h3)).trans (Ex.new h4)) _ _ upd_same, ((Ex.new h3).trans (Ex.new h4)) _ _ upd_same⟩⟩⟩⟩⟩) fun v H1 e1 pv => by
      obtain ⟨p, T1, T2, T3, rfl, hp, h1, h2⟩ := pv
      exact .inr ⟨s, p, x, rows, .int 0, rfl, (sqt_ex f3.im (e.trans e1)), .inr ⟨0, [("", 0)], rfl, n1, x5, ro, [T1, T2, T3], T2, v14, v16, hp, by simp, fun i a w n ha hw => by
        match i, ha, hw with
        | 0, ha, hw => cases ha; cases hw; exact ⟨h1, wo_nil x, Nat.zero_le _⟩, rfl, h2, .inl ⟨noWd_has x5 m14 (h14.ex (e.trans e1)), d14, h14.ex (e.trans e1), r.ex e1⟩⟩⟩))
    obtain ⟨y5, g5, R5, A5⟩ := ask_mk (X := XL P w K mg base f c A outer s0 H E) (n := 2) (kk := 10) (C1 := He.ga K "TeamError") (C2 := He.ga K "Missing") (C3 := He.ga K "NothingLeft") (d := .t [.f (.str "InvalidCount"), d16]) [some (.ref a), some (.ref b), some (.int (0 + (i0 : Int))), some (.ref m), some (.ref s), some (.int (st : Int)), some (.str wd), some (.int (wlk x rows st (sg wd) : Int)), some (.int (gN : Int)), some (.ref pP), some (.int (itw x rows (sg w2) (8 + (gN - 8) % 2520) (itw x rows (sg wd) c5 st) : Int)), u11, some (.ref dd), u13, some v14, some v15, some v16, some (.ref pA), some v9b] a5 (LamTold.mk (lamW (by decide +kernel)) (.one "_law_b" rfl rfl (fun _ _ _ _ _ _ _ => ⟨_, rfl, fun _ => rfl⟩)) fun b1 A1 o1 s1 H1 E1 f1 c1 hr1 => (pe_meth (pe_var (i := 4) rfl (.inr (.inr rfl))) G.MC.c G.mFa (G.XFa b1) (hr1.mono (by decide)) G.bFa G.vFa (passes_call (E := E1) (takes_of rfl rfl rfl rfl) (fun _ _ _ _ h => h)) (pa_cons (pe_lst (pa_cons (pe_tup (pa_cons (pe_var (i := 6) rfl (.inr (.inr rfl))) (pa_cons (pe_var (i := 16) rfl (.inr (.inr rfl))) pa_nil))) (pa_cons (pe_tup (pa_cons (pe_var (i := 14) rfl (.inr (.inr rfl))) (pa_cons pe_int pa_nil))) pa_nil))) pa_nil))) (ask_rz (n := 1) (pn := "given") a5 G.eC (fun _ => rfl) (by decide) (fun H' Q E e r => m1_X (P := fun v H1 => ∃ p T1 T2, v = .ref p ∧ H1 p = some (.lst [.ref T1, .ref T2]) ∧ H1 T1 = some (.tup [.str wd, v16])) rfl (sqt_ex f3.im e) (fun _ _ => rfl) (fun Q2 q2 => ⟨_, rfl, _, rfl, (by show 2 ≤ sizeLine; decide), fun T1 h1 => ⟨_, rfl, (by show 2 ≤ sizeLine; decide), fun T2 h2 => ⟨(by show 2 ≤ sizeLine; decide), fun p h4 => q2 _ _ (((Ex.new h1).trans (Ex.new h2)).trans (Ex.new h4)) ⟨p, T1, T2, rfl, upd_same, ((Ex.new h2).trans (Ex.new h4)) _ _ upd_same⟩⟩⟩⟩) fun v H1 e1 pv => by
      obtain ⟨p, T1, T2, rfl, hp, h1⟩ := pv
      exact .inr ⟨s, p, x, rows, .int 0, rfl, (sqt_ex f3.im (e.trans e1)), .inr ⟨0, [], rfl, n1, x5, ro, [T1, T2], T1, .str wd, v16, hp, by simp, (fun i a w n ha hw => by cases i <;> cases hw), rfl, h1, .inr ⟨wd, rfl, x5, wo, ((oddC_ix d16 m16) ▸ ixOf_has (h16.ex (e.trans e1))), d16, h16.ex (e.trans e1), r.ex e1⟩⟩⟩))
    obtain ⟨y6, g6, R6, A6⟩ := ask_mk (X := XL P w K mg base f c A outer s0 H E) (n := 2) (kk := 10) (C1 := He.ga K "TeamError") (C2 := He.ga K "Missing") (C3 := He.ga K "NothingLeft") (d := .t [.f (.str "value"), .f (.int 0)]) [some (.ref a), some (.ref b), some (.int (0 + (i0 : Int))), some (.ref m), some (.ref s), some (.int (st : Int)), some (.str wd), some (.int (wlk x rows st (sg wd) : Int)), some (.int (gN : Int)), some (.ref pP), some (.int (itw x rows (sg w2) (8 + (gN - 8) % 2520) (itw x rows (sg wd) c5 st) : Int)), u11, some (.ref dd), u13, some v14, some v15, some v16, some (.ref pA), some v9b] a6 (LamTold.mk (lamW (by decide +kernel)) (.one "_law_c" rfl rfl (fun _ _ _ _ _ _ _ => ⟨_, rfl, fun _ => rfl⟩)) fun b1 A1 o1 s1 H1 E1 f1 c1 hr1 => (pe_meth (pe_var (i := 4) rfl (.inr (.inr rfl))) G.MC.c G.mFa (G.XFa b1) (hr1.mono (by decide)) G.bFa G.vFa (passes_call (E := E1) (takes_of rfl rfl rfl rfl) (fun _ _ _ _ h => h)) (pa_cons (pe_lst pa_nil) pa_nil))) (ask_val (n := 1) (d := .f (.int 0)) a6 (fun H' Q E e q => m1_X (P := fun v H1 => ∃ p, v = .ref p ∧ H1 p = some (.lst [])) rfl (sqt_ex f3.im e) (fun _ _ => rfl) (fun Q2 q2 => ⟨Nat.zero_le _, fun p hp => q2 _ _ (Ex.new hp) ⟨p, rfl, upd_same⟩⟩) fun v H1 e1 pv => by
      obtain ⟨p, rfl, hp⟩ := pv
      exact .inl ⟨s, p, x, rows, 0, [], rfl, (sqt_ex f3.im (e.trans e1)), x5, ro, n1, ⟨[], .inl hp, rfl, (fun i a w n ha hw => by cases i <;> cases hw)⟩, by simp, fun H3 e3 => q _ H3 (e1.trans e3) (has_flat (v := .int 0) True.intro 1)⟩))
    have hL : [y0, y1, y2, y3, y4, y5, y6].map (fun x => V.ref x.f) = [.ref lf0, .ref lf1, .ref lf2, .ref lf3, .ref lf4, .ref lf5, .ref lf6] := by simp [g0, g1, g2, g3, g4, g5, g6]
    rw [← hL] at hA
    refine q_ifSameL (n := 3) (vd_tries (X := XL P w K mg base f c A outer s0 H E) (kk := 10) (i := 17) (asks := [y0, y1, y2, y3, y4, y5, y6]) (ds := [.t [.f (.str "InvalidState"), d15], .t [.f (.str "InvalidWord"), d14], .t [.f (.str "InvalidState"), d15], .t [.f (.str "InvalidState"), d15], .t [.f (.str "InvalidWord"), d14], .t [.f (.str "InvalidCount"), d16], .t [.f (.str "value"), .f (.int 0)]]) (C1 := He.ga K "TeamError") (C2 := He.ga K "Missing") (C3 := He.ga K "NothingLeft") (n := 2) (by rfl) hA (fun base hOw z hz => ?_) ?_ ?_ ?_) (VD.cast (vd_cat (n := 2) (vd_var (i := 18) rfl h9b) (vd_lst (n := 2) (vda_cons (vd_tup (n := 1) (vda_cons vd_c (vda_cons (vd_var (i := 16) rfl h16) vda_nil)) (by simp)) (vda_cons (vd_tup (n := 1) (vda_cons vd_c (vda_cons vd_c vda_nil)) (by simp)) vda_nil)) (by simp)) (by simp)) rfl) (bag_some f3.B) fun H33 e33 => ?_
    · simp only [List.mem_cons, List.mem_nil_iff, or_false] at hz
      rcases hz with rfl | rfl | rfl | rfl | rfl | rfl | rfl
      · exact R0 base @hOw
      · exact R1 base @hOw
      · exact R2 base @hOw
      · exact R3 base @hOw
      · exact R4 base @hOw
      · exact R5 base @hOw
      · exact R6 base @hOw
    · rfl
    · simp
    · intro i z d h1 h2
      match i, h1, h2 with
      | 0, h1, h2 => cases h1; cases h2; exact A0
      | 1, h1, h2 => cases h1; cases h2; exact A1
      | 2, h1, h2 => cases h1; cases h2; exact A2
      | 3, h1, h2 => cases h1; cases h2; exact A3
      | 4, h1, h2 => cases h1; cases h2; exact A4
      | 5, h1, h2 => cases h1; cases h2; exact A5
      | 6, h1, h2 => cases h1; cases h2; exact A6
    replace f3 := f3.ex e33
    exact ⟨_, _, _, _, _, _, _, _, _, _, _, _, _, _, _, _, _, rfl, f3.B, f3.t, fun _ => ⟨s, x, rows, rfl, x5, ro, f3.im⟩⟩
end
end K03

-- base: law_k66_errors_by_themselves
/-! InvalidCount, raised -/
namespace K03
open PySem L2 Evl OxK
section
variable {P : Program} {w : World} {K : PySem.W.Frag} {mg : Str → Option Value} {base : Heap} {f fC C : Addr} {fd fdC : FuncData}
abbrev FIInvalidCount (K : PySem.W.Frag) (f : Addr) (fd : FuncData) : Prop := FunD K "__init__" "InvalidCount.__init__" (defArgs iInvalidCount) (defBody iInvalidCount) (defScope iInvalidCount) [] [] f fd
theorem sxInvalidCount : FnScope ["self", "given"] ["self", "given"] (defScope iInvalidCount) := ⟨rfl, rfl, rfl, by decide +kernel, rfl, by decide +kernel, by decide +kernel⟩
theorem okxInvalidCount (n : Nat) {fI : Addr} (F : FIInvalidCount K f fd) (T : RaC K mg "InvalidCount" C fI)
    (GC : FnOk P w K mg base CX0 (n + 1) fC fdC ["value"] (spCpN n)) (gC : mg "copied" = some (.ref fC)) (kC : PySem.W.keepIn K (.ref fC) = true) (bC : Binds K fdC ["value"] []) : FnOk P w K mg base CX0 (n + 2) f fd ["self", "given"] (spX n C "InvalidCount" "given") := by
  refine F.ok sxInvalidCount (fun vs H Q E h => ?_) (fun cdv A outer s H vs Q E hr h => ⟨t_initN K n "InvalidCount" "given", PSs.nox (pss_cons (ps_xst (pv 0) pe_str) (pss_one (ps_xst (pv 0) (pe_call GC hr rfl gC kC bC .nil pass0 (pa_cons (pv 1) pa_nil))))), pure_initN n "InvalidCount" "given" T.exc (T.tag.no _ (by decide)) (T.tag.no _ (by decide)) h⟩)
  obtain ⟨a, v, d, H0, rfl, _⟩ := h
  rfl
theorem bxInvalidCount (F : FIInvalidCount K f fd) : Binds K fd ["self", "given"] [] := F.bindsN fun _ _ _ _ _ _ us hl => match us, hl with | [_, _], _ => rfl
end
end K03

-- base: law_k03_words_and_far_words
/-! the facts by names -/
namespace K03
open PySem L2 Evl OxK
theorem ba {a b : Bool} (h : (a && b) = true) : a = true ∧ b = true := Bool.and_eq_true_iff.mp h
theorem raw {P : Program} {w : World} {K : PySem.W.Frag} {mg : Str → Option Value} {base : Heap} {k : Nat} {f : Addr} {fd : FuncData} {ps : List Str} {sp : Sp} (F : FnOk P w K mg base CX0 k f fd ps sp) (b : Binds K fd ps []) : FnR P w K mg base CX0 k f sp :=
  (F.raw b .nil).imp fun vs H Q E h => by rw [List.append_nil]; exact h
theorem facts {P : Program} {w : World} {K : PySem.W.Frag} {h : Heap} {mg : Str → Option Value} {f : Addr} (X : K.In h) (G : h.Ns mainGlobals mg) (hfa : mg ("law" : Str) = some (.ref f)) (d : HkZ.SaysZ fa fn exB h K) :
    ∃ fd : FuncData, ∃ c PT : Addr, (c = (He.cT K HkZ.lawD).1 ∧ PT = (He.cT K HkZ.lawD).2) ∧ (∀ (s : Shared) (v : Value), BindsTo s fd ⟨[v], []⟩ [("_law_script", v)]) ∧ ∀ base : Heap, LamX.TabB base mg c PT → FnOk P w K mg base CX0 18 f fd ["_law_script"] (spLaw K (TL PT)) := by
  have c := d.y
  obtain ⟨x1, m⟩ := ba (show exB K = true from c.more)
  obtain ⟨x2, m⟩ := ba m
  obtain ⟨x3, m⟩ := ba m
  obtain ⟨x4, m⟩ := ba m
  obtain ⟨x5, m⟩ := ba m
  obtain ⟨x6, m⟩ := ba m
  have x7 := m
  obtain ⟨fd0, F0⟩ := c.def_ 0 rfl
  obtain ⟨fd1, F1⟩ := c.def_ 1 rfl
  obtain ⟨fd2, F2⟩ := c.def_ 2 rfl
  obtain ⟨fd3, F3⟩ := c.def_ 3 rfl
  obtain ⟨fd4, F4⟩ := c.def_ 4 rfl
  obtain ⟨fd5, F5⟩ := c.def_ 5 rfl
  obtain ⟨fd6, F6⟩ := c.def_ 6 rfl
  obtain ⟨fd7, F7⟩ := c.def_ 7 rfl
  obtain ⟨fd8, F8⟩ := c.def_ 8 rfl
  obtain ⟨fd9, F9⟩ := c.def_ 9 rfl
  obtain ⟨fd10, F10⟩ := c.def_ 10 rfl
  obtain ⟨fd11, F11⟩ := c.def_ 11 rfl
  obtain ⟨fd12, F12⟩ := c.def_ 12 rfl
  obtain ⟨fd13, F13⟩ := c.def_ 13 rfl
  obtain ⟨fd14, F14⟩ := c.def_ 14 rfl
  obtain ⟨fd15, F15⟩ := c.def_ 15 rfl
  obtain ⟨fd16, F16⟩ := c.def_ 16 rfl
  obtain ⟨fd17, F17⟩ := c.def_ 17 rfl
  obtain ⟨fd18, F18⟩ := c.def_ 18 rfl
  obtain ⟨fd19, F19⟩ := c.def_ 19 rfl
  obtain ⟨fd20, F20⟩ := c.def_ 20 rfl
  obtain ⟨fd21, F21⟩ := c.def_ 21 rfl
  obtain ⟨fd22, F22⟩ := c.def_ 22 rfl
  obtain ⟨fd23, F23⟩ := c.def_ 23 rfl
  obtain ⟨fd24, F24⟩ := c.def_ 24 rfl
  obtain ⟨fd25, F25⟩ := c.def_ 25 rfl
  obtain ⟨fd26, F26⟩ := c.def_ 26 rfl
  obtain ⟨fd27, F27⟩ := c.def_ 27 rfl
  obtain ⟨fd28, F28⟩ := c.def_ 28 rfl
  obtain ⟨fd29, F29⟩ := c.def_ 29 rfl
  obtain ⟨fd30, F30⟩ := c.def_ 30 rfl
  obtain ⟨fd31, F31⟩ := c.def_ 31 rfl
  obtain ⟨fd32, F32⟩ := c.def_ 32 rfl
  obtain ⟨fd33, F33⟩ := c.def_ 33 rfl
  obtain ⟨fd34, F34⟩ := c.def_ 34 rfl
  obtain ⟨fd35, F35⟩ := c.def_ 35 rfl
  obtain ⟨fd36, F36⟩ := c.def_ 36 rfl
  obtain ⟨fd37, F37⟩ := c.def_ 37 rfl
  obtain ⟨fd38, F38⟩ := c.def_ 38 rfl
  obtain ⟨fd39, F39⟩ := c.def_ 39 rfl
  obtain ⟨fd40, F40⟩ := c.def_ 40 rfl
  obtain ⟨fd41, F41⟩ := c.def_ 41 rfl
  have e := hfa.symm.trans (He.glo_ok X G (c.fact 24 (f := .glo "law") rfl))
  cases e
  have bLw := FunD.bindsA (ps := ["_law_script"]) F24 fun _ _ _ _ _ _ us hl => match us, hl with | [_], _ => rfl
  obtain ⟨ocL, odL, dVL, kVL, docL, pmL, anL, cdvL, ctL, oslL, eL, lkL, hcdL, _, _⟩ := F24.ex
  obtain ⟨cL, eC⟩ := He.codeIn_ref hcdL
  subst eC
  subst eL
  have ecL : He.codeOf K HkZ.lawD = cL := He.codeOf_eq lkL rfl
  refine ⟨_, cL, (He.cT K HkZ.lawD).2, ⟨ecL.symm, rfl⟩, fun s v => bLw s [v] rfl, fun base TB => ?_⟩
  have B : NoB mg := ⟨(He.free_ok X G (c.fact 26 (f := .free "isinstance") rfl)), (He.free_ok X G (c.fact 27 (f := .free "list") rfl)), (He.free_ok X G (c.fact 28 (f := .free "tuple") rfl))⟩
  have T : NoS mg := ⟨B, (He.free_ok X G (c.fact 29 (f := .free "bool") rfl)), (He.free_ok X G (c.fact 30 (f := .free "int") rfl)), (He.free_ok X G (c.fact 31 (f := .free "str") rfl)), (He.free_ok X G (c.fact 32 (f := .free "len") rfl)), (He.free_ok X G (c.fact 33 (f := .free "all") rfl)), (He.free_ok X G (c.fact 34 (f := .free "zip") rfl))⟩
  have MC : MCls K (cM K) := ⟨He.cls_ok (c.fact 65 (f := .cls "Machine") rfl), He.noat_ok (c.fact 66 (f := .noat "Machine" "signs") rfl), He.noat_ok (c.fact 67 (f := .noat "Machine" "rows") rfl), He.noat_ok (c.fact 68 (f := .noat "Machine" "roads") rfl)⟩
  have c24 : Told24 K (cM K) := (HkY.conB_ok x1)
  have gCop := (He.glo_ok X G (c.fact 78 (f := .glo "copied") rfl))
  have kCop := (He.keep_ok (c.fact 79 (f := .keep "copied") rfl))
  have bCop : Binds K fd34 ["value"] [] := (FunD.bindsN F34 fun _ _ _ _ _ _ us hl => match us, hl with | [_], _ => rfl)
  have RInvalidState : RaC K mg "InvalidState" (He.ga K "InvalidState") (He.ma K (He.ga K "InvalidState") "__init__") := raB_ok x2 (He.glo_ok X G (c.fact 91 (f := .glo "InvalidState") rfl))
  have RInvalidWord : RaC K mg "InvalidWord" (He.ga K "InvalidWord") (He.ma K (He.ga K "InvalidWord") "__init__") := raB_ok x3 (He.glo_ok X G (c.fact 92 (f := .glo "InvalidWord") rfl))
  have RInvalidCount : RaC K mg "InvalidCount" (He.ga K "InvalidCount") (He.ma K (He.ga K "InvalidCount") "__init__") := raB_ok x4 (He.glo_ok X G (c.fact 93 (f := .glo "InvalidCount") rfl))
  have hX : ∀ base : Heap, (FnOk P w K mg base (L2.CX P w) 6 (He.ma K (cM K) "behind") fd29 ["self", "word", "state"] (spBhX K (cM K) 1 (He.ga K "InvalidState") (He.ga K "InvalidWord"))) ∧ (FnOk P w K mg base (L2.CX P w) 7 (He.ma K (cM K) "far") fd32 ["self", "parts", "state"] (spFarE K)) ∧ (FnOk P w K mg base (L2.CX P w) 6 (He.ma K (cM K) "word_to") fd33 ["self", "state"] (spRqsX K (cM K) 1 (He.ga K "InvalidState"))) := by
    intro base
    have Gis_number : FnOk P w K mg base CX0 1 (He.ga K "is_number") fd0 ["value"] (spNum K) := ok_num  F0 T
    have bis_number : Binds K fd0 ["value"] [] := (FunD.bindsN F0 fun _ _ _ _ _ _ us hl => match us, hl with | [_], _ => rfl)
    have Gis_index : FnOk P w K mg base CX0 2 (He.ga K "is_index") fd1 ["value", "size"] (spIdx K) := ok_idx  F1 F0 T (He.glo_ok X G (c.fact 0 (f := .glo "is_number") rfl))
    have bis_index : Binds K fd1 ["value", "size"] [] := (FunD.bindsN F1 fun _ _ _ _ _ _ us hl => match us, hl with | [_, _], _ => rfl)
    have GMachine_require_state : FnOk P w K mg base CX0 3 (He.ma K (cM K) "require_state") fd26 ["self", "state"] (spRqs K (cM K)) := ok_rqs  F26 F1 (He.glo_ok X G (c.fact 1 (f := .glo "is_index") rfl)) F0 (He.glo_ok X G (c.fact 0 (f := .glo "is_number") rfl)) T MC
    have bMachine_require_state : Binds K fd26 ["self", "state"] [] := (FunD.bindsN F26 fun _ _ _ _ _ _ us hl => match us, hl with | [_, _], _ => rfl)
    have GMachine_require_word : FnOk P w K mg base CX0 2 (He.ma K (cM K) "require_word") fd27 ["self", "word"] (spRqw K (cM K)) := ok_rqw  F27 F8 (He.glo_ok X G (c.fact 8 (f := .glo "is_word") rfl)) T MC
    have bMachine_require_word : Binds K fd27 ["self", "word"] [] := (FunD.bindsN F27 fun _ _ _ _ _ _ us hl => match us, hl with | [_, _], _ => rfl)
    have GMachine_walk : FnOk P w K mg base CX0 1 (He.ma K (cM K) "walk") fd28 ["self", "word", "state"] (spWk K (cM K)) := ok_wk  F28 MC
    have bMachine_walk : Binds K fd28 ["self", "word", "state"] [] := (FunD.bindsN F28 fun _ _ _ _ _ _ us hl => match us, hl with | [_, _, _], _ => rfl)
    have Gis_count : FnOk P w K mg base CX0 3 (He.ga K "is_count") fd9 ["value"] spIc := ok_ic2  F9 (He.int_ok X G (c.fact 64 (f := .int "MOST_COUNT" 1000000000000000000000000000000) rfl)) Gis_index (He.glo_ok X G (c.fact 1 (f := .glo "is_index") rfl)) (He.keep_ok (c.fact 40 (f := .keep "is_index") rfl)) bis_index
    have bis_count : Binds K fd9 ["value"] [] := (FunD.bindsN F9 fun _ _ _ _ _ _ us hl => match us, hl with | [_], _ => rfl)
    have GMachine_require_part : FnOk P w K mg base CX0 4 (He.ma K (cM K) "require_part") fd30 ["self", "part"] (spRpt K (cM K)) := ok_rpt  F30 T MC (He.meth_ok (c.fact 70 (f := .meth "Machine" "require_word") rfl)) GMachine_require_word bMachine_require_word Gis_count (He.glo_ok X G (c.fact 9 (f := .glo "is_count") rfl)) (He.keep_ok (c.fact 48 (f := .keep "is_count") rfl)) bis_count
    have bMachine_require_part : Binds K fd30 ["self", "part"] [] := (FunD.bindsN F30 fun _ _ _ _ _ _ us hl => match us, hl with | [_, _], _ => rfl)
    have GMachine_walk_often : FnOk P w K mg base CX0 2 (He.ma K (cM K) "walk_often") fd31 ["self", "word", "count", "state"] (spWof K (cM K)) := ok_wof  F31 T MC (He.meth_ok (c.fact 71 (f := .meth "Machine" "walk") rfl)) GMachine_walk bMachine_walk
    have bMachine_walk_often : Binds K fd31 ["self", "word", "count", "state"] [] := (FunD.bindsN F31 fun _ _ _ _ _ _ us hl => match us, hl with | [_, _, _, _], _ => rfl)
    have GMachine_far : FnOk P w K mg base CX0 5 (He.ma K (cM K) "far") fd32 ["self", "parts", "state"] (spFar K (cM K)) := ok_far  F32 MC (He.meth_ok (c.fact 69 (f := .meth "Machine" "require_state") rfl)) GMachine_require_state bMachine_require_state (He.meth_ok (c.fact 73 (f := .meth "Machine" "require_part") rfl)) GMachine_require_part bMachine_require_part (He.meth_ok (c.fact 74 (f := .meth "Machine" "walk_often") rfl)) GMachine_walk_often bMachine_walk_often
    obtain ⟨dMachine_far, vdMachine_far, bdMachine_far⟩ := bd_far F32
    have GCop : FnOk P w K mg base CX0 2 (He.ga K "copied") fd34 ["value"] (spCpN 1) := ok_cpN F34 B (He.free_ok X G (c.fact 38 (f := .free "dict") rfl)) gCop 1
    have GIdxA : FnOk P w K mg base CX0 2 (He.ga K "is_index") fd1 ["value", "size"] (spIdxA K) := ok_idxA F1 F0 T (He.glo_ok X G (c.fact 0 (f := .glo "is_number") rfl))
    have GWdA : FnOk P w K mg base CX0 1 (He.ga K "is_word") fd8 ["value", "alphabet"] (spWdA K) := ok_wdA F8 T
    have bWdA : Binds K fd8 ["value", "alphabet"] [] := (FunD.bindsN F8 fun _ _ _ _ _ _ us hl => match us, hl with | [_, _], _ => rfl)
    have GIcB : FnOk P w K mg base CX0 3 (He.ga K "is_count") fd9 ["value"] (spIcB K) := ok_icB F9 (He.int_ok X G (c.fact 64 (f := .int "MOST_COUNT" 1000000000000000000000000000000) rfl)) GIdxA (He.glo_ok X G (c.fact 1 (f := .glo "is_index") rfl)) (He.keep_ok (c.fact 40 (f := .keep "is_index") rfl)) bis_index
    have GInvalidStateI : FnOk P w K mg base CX0 3 (He.ma K (He.ga K "InvalidState") "__init__") fd39 ["self", "given"] (spX 1 (He.ga K "InvalidState") "InvalidState" "given") := okxInvalidState 1 F39 RInvalidState GCop gCop kCop bCop
    have GInvalidWordI : FnOk P w K mg base CX0 3 (He.ma K (He.ga K "InvalidWord") "__init__") fd40 ["self", "given"] (spX 1 (He.ga K "InvalidWord") "InvalidWord" "given") := okxInvalidWord 1 F40 RInvalidWord GCop gCop kCop bCop
    have GInvalidCountI : FnOk P w K mg base CX0 3 (He.ma K (He.ga K "InvalidCount") "__init__") fd41 ["self", "given"] (spX 1 (He.ga K "InvalidCount") "InvalidCount" "given") := okxInvalidCount 1 F41 RInvalidCount GCop gCop kCop bCop
    have GRqsX : FnOk P w K mg base (L2.CX P w) 5 (He.ma K (cM K) "require_state") fd26 ["self", "state"] (spRqsX K (cM K) 1 (He.ga K "InvalidState")) := ok_rqsX F26 GIdxA (He.glo_ok X G (c.fact 1 (f := .glo "is_index") rfl)) (He.keep_ok (c.fact 40 (f := .keep "is_index") rfl)) bis_index T MC RInvalidState GInvalidStateI (bxInvalidState F39)
    have GRqwX : FnOk P w K mg base (L2.CX P w) 5 (He.ma K (cM K) "require_word") fd27 ["self", "word"] (spRqwX K (cM K) 1 (He.ga K "InvalidWord")) := ok_rqwX F27 GWdA (He.glo_ok X G (c.fact 8 (f := .glo "is_word") rfl)) (He.keep_ok (c.fact 47 (f := .keep "is_word") rfl)) bWdA MC RInvalidWord GInvalidWordI (bxInvalidWord F40)
    have GRqsE : FnOk P w K mg base (L2.CX P w) 5 (He.ma K (cM K) "require_state") fd26 ["self", "state"] (spRqsE K (cM K) 1 (He.ga K "InvalidState")) := FnOk.or ((FnOk.any GMachine_require_state).mono (by decide)) GRqsX
    have GRqwE : FnOk P w K mg base (L2.CX P w) 5 (He.ma K (cM K) "require_word") fd27 ["self", "word"] (spRqwE K (cM K) 1 (He.ga K "InvalidWord")) := FnOk.or ((FnOk.any GMachine_require_word).mono (by decide)) GRqwX
    have GRptX : FnOk P w K mg base (L2.CX P w) 6 (He.ma K (cM K) "require_part") fd30 ["self", "part"] (spRptX K (cM K) 1 (He.ga K "InvalidWord") (He.ga K "InvalidCount")) := ok_rptX (n := 1) F30 T MC (He.meth_ok (c.fact 70 (f := .meth "Machine" "require_word") rfl)) GRqwE bMachine_require_word GIcB (He.glo_ok X G (c.fact 9 (f := .glo "is_count") rfl)) (He.keep_ok (c.fact 48 (f := .keep "is_count") rfl)) bis_count RInvalidCount GInvalidCountI (bxInvalidCount F41)
    have GRptE : FnOk P w K mg base (L2.CX P w) 6 (He.ma K (cM K) "require_part") fd30 ["self", "part"] (spRptE K (cM K) 1 (He.ga K "InvalidWord") (He.ga K "InvalidCount")) := FnOk.or ((FnOk.any GMachine_require_part).mono (by decide)) GRptX
    have GFaX : FnOk P w K mg base (L2.CX P w) 7 (He.ma K (cM K) "far") fd32 ["self", "parts", "state"] (spFarX K (cM K) 1 (He.ga K "InvalidState") (He.ga K "InvalidWord") (He.ga K "InvalidCount")) := ok_farX (n := 1) F32 MC (He.meth_ok (c.fact 69 (f := .meth "Machine" "require_state") rfl)) GRqsE bMachine_require_state (He.meth_ok (c.fact 73 (f := .meth "Machine" "require_part") rfl)) GRptE bMachine_require_part (He.meth_ok (c.fact 74 (f := .meth "Machine" "walk_often") rfl)) GMachine_walk_often bMachine_walk_often
    have GBhX : FnOk P w K mg base (L2.CX P w) 6 (He.ma K (cM K) "behind") fd29 ["self", "word", "state"] (spBhX K (cM K) 1 (He.ga K "InvalidState") (He.ga K "InvalidWord")) := ok_bhX (n := 1) F29 MC (He.meth_ok (c.fact 69 (f := .meth "Machine" "require_state") rfl)) GRqsE bMachine_require_state (He.meth_ok (c.fact 70 (f := .meth "Machine" "require_word") rfl)) GRqwE bMachine_require_word
    have GWtX : FnOk P w K mg base (L2.CX P w) 6 (He.ma K (cM K) "word_to") fd33 ["self", "state"] (spRqsX K (cM K) 1 (He.ga K "InvalidState")) := ok_mwtX (n := 1) F33 MC (He.meth_ok (c.fact 69 (f := .meth "Machine" "require_state") rfl)) GRqsX bMachine_require_state
    exact ⟨GBhX, FnOk.or ((FnOk.any GMachine_far).mono (by decide)) GFaX, GWtX⟩
  have Gis_number : FnOk P w K mg base CX0 1 (He.ga K "is_number") fd0 ["value"] (spNum K) := ok_num  F0 T
  have bis_number : Binds K fd0 ["value"] [] := (FunD.bindsN F0 fun _ _ _ _ _ _ us hl => match us, hl with | [_], _ => rfl)
  have Gis_index : FnOk P w K mg base CX0 2 (He.ga K "is_index") fd1 ["value", "size"] (spIdx K) := ok_idx  F1 F0 T (He.glo_ok X G (c.fact 0 (f := .glo "is_number") rfl))
  have bis_index : Binds K fd1 ["value", "size"] [] := (FunD.bindsN F1 fun _ _ _ _ _ _ us hl => match us, hl with | [_, _], _ => rfl)
  have Gis_list : FnOk P w K mg base CX0 1 (He.ga K "is_list") fd2 ["value"] (spLst K) := ok_lst  F2 T
  have bis_list : Binds K fd2 ["value"] [] := (FunD.bindsN F2 fun _ _ _ _ _ _ us hl => match us, hl with | [_], _ => rfl)
  have Gclimbs : FnOk P w K mg base CX0 1 (He.ga K "climbs") fd3 ["items"] spAlp := ok_clb  F3 T
  have bclimbs : Binds K fd3 ["items"] [] := (FunD.bindsN F3 fun _ _ _ _ _ _ us hl => match us, hl with | [_], _ => rfl)
  have Gis_alphabet : FnOk P w K mg base CX0 2 (He.ga K "is_alphabet") fd4 ["value"] spAlp := ok_alp  F4 F3 (He.glo_ok X G (c.fact 3 (f := .glo "climbs") rfl)) T (He.int_ok X G (c.fact 63 (f := .int "MOST_LETTERS" 3) rfl))
  have bis_alphabet : Binds K fd4 ["value"] [] := (FunD.bindsN F4 fun _ _ _ _ _ _ us hl => match us, hl with | [_], _ => rfl)
  have Grequire_shape : FnOk P w K mg base CX0 3 (He.ga K "require_shape") fd5 ["alphabet", "size"] spRsh := ok_rsh  F5 F4 F3 (He.glo_ok X G (c.fact 3 (f := .glo "climbs") rfl)) F0 T (He.int_ok X G (c.fact 63 (f := .int "MOST_LETTERS" 3) rfl)) (He.glo_ok X G (c.fact 4 (f := .glo "is_alphabet") rfl)) (He.glo_ok X G (c.fact 0 (f := .glo "is_number") rfl)) (He.glo_ok X G (c.fact 25 (f := .glo "Machine") rfl)) c24
  have brequire_shape : Binds K fd5 ["alphabet", "size"] [] := (FunD.bindsN F5 fun _ _ _ _ _ _ us hl => match us, hl with | [_, _], _ => rfl)
  have Gis_goals : FnOk P w K mg base CX0 3 (He.ga K "is_goals") fd6 ["value", "letters", "states"] (spGls K) := ok_gls  F6 F1 F0 F2 T (He.glo_ok X G (c.fact 0 (f := .glo "is_number") rfl)) (He.glo_ok X G (c.fact 1 (f := .glo "is_index") rfl)) (He.glo_ok X G (c.fact 2 (f := .glo "is_list") rfl))
  have bis_goals : Binds K fd6 ["value", "letters", "states"] [] := (FunD.bindsN F6 fun _ _ _ _ _ _ us hl => match us, hl with | [_, _, _], _ => rfl)
  have Gfirst_words : FnOk P w K mg base CX0 1 (He.ga K "first_words") fd7 ["alphabet", "rows"] (spFw K) := ok_fw  F7 T
  have bfirst_words : Binds K fd7 ["alphabet", "rows"] [] := (FunD.bindsN F7 fun _ _ _ _ _ _ us hl => match us, hl with | [_, _], _ => rfl)
  have GMachine_init : FnOk P w K mg base CX0 4 (He.ma K (cM K) "__init__") fd25 ["self", "alphabet", "moves"] (spMi K (cM K)) := ok_mi  F25 T (He.free_ok X G (c.fact 35 (f := .free "enumerate") rfl)) MC Grequire_shape (He.glo_ok X G (c.fact 5 (f := .glo "require_shape") rfl)) (He.keep_ok (c.fact 44 (f := .keep "require_shape") rfl)) brequire_shape Gis_list (He.glo_ok X G (c.fact 2 (f := .glo "is_list") rfl)) (He.keep_ok (c.fact 41 (f := .keep "is_list") rfl)) bis_list Gis_goals (He.glo_ok X G (c.fact 6 (f := .glo "is_goals") rfl)) (He.keep_ok (c.fact 45 (f := .keep "is_goals") rfl)) bis_goals Gfirst_words (He.glo_ok X G (c.fact 7 (f := .glo "first_words") rfl)) (He.keep_ok (c.fact 46 (f := .keep "first_words") rfl)) bfirst_words
  have bMachine_init : Binds K fd25 ["self", "alphabet", "moves"] [] := (FunD.bindsN F25 fun _ _ _ _ _ _ us hl => match us, hl with | [_, _, _], _ => rfl)
  have GMachine_require_state : FnOk P w K mg base CX0 3 (He.ma K (cM K) "require_state") fd26 ["self", "state"] (spRqs K (cM K)) := ok_rqs  F26 F1 (He.glo_ok X G (c.fact 1 (f := .glo "is_index") rfl)) F0 (He.glo_ok X G (c.fact 0 (f := .glo "is_number") rfl)) T MC
  have bMachine_require_state : Binds K fd26 ["self", "state"] [] := (FunD.bindsN F26 fun _ _ _ _ _ _ us hl => match us, hl with | [_, _], _ => rfl)
  have GMachine_require_word : FnOk P w K mg base CX0 2 (He.ma K (cM K) "require_word") fd27 ["self", "word"] (spRqw K (cM K)) := ok_rqw  F27 F8 (He.glo_ok X G (c.fact 8 (f := .glo "is_word") rfl)) T MC
  have bMachine_require_word : Binds K fd27 ["self", "word"] [] := (FunD.bindsN F27 fun _ _ _ _ _ _ us hl => match us, hl with | [_, _], _ => rfl)
  have GMachine_walk : FnOk P w K mg base CX0 1 (He.ma K (cM K) "walk") fd28 ["self", "word", "state"] (spWk K (cM K)) := ok_wk  F28 MC
  have bMachine_walk : Binds K fd28 ["self", "word", "state"] [] := (FunD.bindsN F28 fun _ _ _ _ _ _ us hl => match us, hl with | [_, _, _], _ => rfl)
  have GMachine_behind : FnOk P w K mg base CX0 4 (He.ma K (cM K) "behind") fd29 ["self", "word", "state"] (spBhS K (cM K)) := ok_bhS  F29 MC (He.meth_ok (c.fact 69 (f := .meth "Machine" "require_state") rfl)) GMachine_require_state bMachine_require_state (He.meth_ok (c.fact 70 (f := .meth "Machine" "require_word") rfl)) GMachine_require_word bMachine_require_word (He.meth_ok (c.fact 71 (f := .meth "Machine" "walk") rfl)) GMachine_walk bMachine_walk
  obtain ⟨dMachine_behind, vdMachine_behind, bdMachine_behind⟩ := bd_bh F29
  have Gis_count : FnOk P w K mg base CX0 3 (He.ga K "is_count") fd9 ["value"] spIc := ok_ic2  F9 (He.int_ok X G (c.fact 64 (f := .int "MOST_COUNT" 1000000000000000000000000000000) rfl)) Gis_index (He.glo_ok X G (c.fact 1 (f := .glo "is_index") rfl)) (He.keep_ok (c.fact 40 (f := .keep "is_index") rfl)) bis_index
  have bis_count : Binds K fd9 ["value"] [] := (FunD.bindsN F9 fun _ _ _ _ _ _ us hl => match us, hl with | [_], _ => rfl)
  have GMachine_require_part : FnOk P w K mg base CX0 4 (He.ma K (cM K) "require_part") fd30 ["self", "part"] (spRpt K (cM K)) := ok_rpt  F30 T MC (He.meth_ok (c.fact 70 (f := .meth "Machine" "require_word") rfl)) GMachine_require_word bMachine_require_word Gis_count (He.glo_ok X G (c.fact 9 (f := .glo "is_count") rfl)) (He.keep_ok (c.fact 48 (f := .keep "is_count") rfl)) bis_count
  have bMachine_require_part : Binds K fd30 ["self", "part"] [] := (FunD.bindsN F30 fun _ _ _ _ _ _ us hl => match us, hl with | [_, _], _ => rfl)
  have GMachine_walk_often : FnOk P w K mg base CX0 2 (He.ma K (cM K) "walk_often") fd31 ["self", "word", "count", "state"] (spWof K (cM K)) := ok_wof  F31 T MC (He.meth_ok (c.fact 71 (f := .meth "Machine" "walk") rfl)) GMachine_walk bMachine_walk
  have bMachine_walk_often : Binds K fd31 ["self", "word", "count", "state"] [] := (FunD.bindsN F31 fun _ _ _ _ _ _ us hl => match us, hl with | [_, _, _, _], _ => rfl)
  have GMachine_far : FnOk P w K mg base CX0 5 (He.ma K (cM K) "far") fd32 ["self", "parts", "state"] (spFar K (cM K)) := ok_far  F32 MC (He.meth_ok (c.fact 69 (f := .meth "Machine" "require_state") rfl)) GMachine_require_state bMachine_require_state (He.meth_ok (c.fact 73 (f := .meth "Machine" "require_part") rfl)) GMachine_require_part bMachine_require_part (He.meth_ok (c.fact 74 (f := .meth "Machine" "walk_often") rfl)) GMachine_walk_often bMachine_walk_often
  obtain ⟨dMachine_far, vdMachine_far, bdMachine_far⟩ := bd_far F32
  have GMachine_word_to : FnOk P w K mg base CX0 4 (He.ma K (cM K) "word_to") fd33 ["self", "state"] (spMwt K (cM K)) := ok_mwt2  F33 MC (He.meth_ok (c.fact 69 (f := .meth "Machine" "require_state") rfl)) GMachine_require_state bMachine_require_state
  have bMachine_word_to : Binds K fd33 ["self", "state"] [] := (FunD.bindsN F33 fun _ _ _ _ _ _ us hl => match us, hl with | [_, _], _ => rfl)
  have G_law_bag : FnOk P w K mg base CX0 1 (He.ga K "_law_bag") fd10 ["_law_script"] (spBag K) := ok_bag  F10 (He.free_ok X G (c.fact 30 (f := .free "int") rfl)) (He.free_ok X G (c.fact 27 (f := .free "list") rfl))
  have b_law_bag : Binds K fd10 ["_law_script"] [] := (FunD.bindsN F10 fun _ _ _ _ _ _ us hl => match us, hl with | [_], _ => rfl)
  have G_law_pull : FnOk P w K mg base CX0 1 (He.ga K "_law_pull") fd11 ["_law_bag_here", "_law_amount"] spPull := ok_pull  F11 (He.free_ok X G (c.fact 32 (f := .free "len") rfl)) (He.free_ok X G (c.fact 30 (f := .free "int") rfl))
  have b_law_pull : Binds K fd11 ["_law_bag_here", "_law_amount"] [] := (FunD.bindsN F11 fun _ _ _ _ _ _ us hl => match us, hl with | [_, _], _ => rfl)
  have G_law_of : FnOk P w K mg base CX0 2 (He.ga K "_law_of") fd12 ["_law_bag_here", "_law_things"] (spOf K) := ok_of  F12 F11 (He.glo_ok X G (c.fact 11 (f := .glo "_law_pull") rfl)) (He.free_ok X G (c.fact 32 (f := .free "len") rfl)) (He.free_ok X G (c.fact 30 (f := .free "int") rfl))
  have b_law_of : Binds K fd12 ["_law_bag_here", "_law_things"] [] := (FunD.bindsN F12 fun _ _ _ _ _ _ us hl => match us, hl with | [_, _], _ => rfl)
  have G_law_same : FnOk P w K mg base CX0 4 (He.ga K "_law_same") fd13 ["_law_found", "_law_due"] (spSame 3) := ok_same F13 T (He.glo_ok X G (c.fact 13 (f := .glo "_law_same") rfl)) 3
  have b_law_same : Binds K fd13 ["_law_found", "_law_due"] [] := (FunD.bindsN F13 fun _ _ _ _ _ _ us hl => match us, hl with | [_, _], _ => rfl)
  have G_law_signs : FnOk P w K mg base CX0 3 (He.ga K "_law_signs") fd14 ["_law_bag_here"] spSg := ok_sg  F14 F12 F11 (He.glo_ok X G (c.fact 12 (f := .glo "_law_of") rfl)) (He.glo_ok X G (c.fact 11 (f := .glo "_law_pull") rfl)) (He.free_ok X G (c.fact 32 (f := .free "len") rfl)) (He.free_ok X G (c.fact 30 (f := .free "int") rfl))
  have b_law_signs : Binds K fd14 ["_law_bag_here"] [] := (FunD.bindsN F14 fun _ _ _ _ _ _ us hl => match us, hl with | [_], _ => rfl)
  have G_law_drawn : FnOk P w K mg base CX0 2 (He.ga K "_law_drawn") fd15 ["_law_bag_here", "_law_signs_here", "_law_size"] spDr := ok_dr  F15 F11 (He.glo_ok X G (c.fact 11 (f := .glo "_law_pull") rfl)) (He.free_ok X G (c.fact 32 (f := .free "len") rfl)) (He.free_ok X G (c.fact 30 (f := .free "int") rfl)) (He.free_ok X G (c.fact 36 (f := .free "range") rfl))
  have b_law_drawn : Binds K fd15 ["_law_bag_here", "_law_signs_here", "_law_size"] [] := (FunD.bindsN F15 fun _ _ _ _ _ _ us hl => match us, hl with | [_, _, _], _ => rfl)
  have G_law_machine : FnOk P w K mg base CX0 3 (He.ga K "_law_machine") fd16 ["_law_bag_here", "_law_signs_here", "_law_size"] spLm := ok_lm  F16 F11 (He.glo_ok X G (c.fact 11 (f := .glo "_law_pull") rfl)) F12 (He.glo_ok X G (c.fact 12 (f := .glo "_law_of") rfl)) F15 (He.glo_ok X G (c.fact 15 (f := .glo "_law_drawn") rfl)) (He.free_ok X G (c.fact 32 (f := .free "len") rfl)) (He.free_ok X G (c.fact 30 (f := .free "int") rfl)) (He.free_ok X G (c.fact 36 (f := .free "range") rfl)) (He.free_ok X G (c.fact 37 (f := .free "min") rfl))
  have b_law_machine : Binds K fd16 ["_law_bag_here", "_law_signs_here", "_law_size"] [] := (FunD.bindsN F16 fun _ _ _ _ _ _ us hl => match us, hl with | [_, _, _], _ => rfl)
  have G_law_made : FnOk P w K mg base CX0 6 (He.ga K "_law_made") fd17 ["_law_model"] (spMd K (cM K)) := ok_md  F17 (He.free_ok X G (c.fact 27 (f := .free "list") rfl)) (He.mkr_ok (c.fact 77 (f := .mkr "Machine") rfl)) GMachine_init (He.glo_ok X G (c.fact 25 (f := .glo "Machine") rfl)) bMachine_init
  have b_law_made : Binds K fd17 ["_law_model"] [] := (FunD.bindsN F17 fun _ _ _ _ _ _ us hl => match us, hl with | [_], _ => rfl)
  have G_law_goal : FnOk P w K mg base CX0 1 (He.ga K "_law_goal") fd18 ["_law_model", "_law_state_z", "_law_sign"] spLg := ok_lg  F18
  have b_law_goal : Binds K fd18 ["_law_model", "_law_state_z", "_law_sign"] [] := (FunD.bindsN F18 fun _ _ _ _ _ _ us hl => match us, hl with | [_, _, _], _ => rfl)
  have G_law_led : FnOk P w K mg base CX0 2 (He.ga K "_law_led") fd19 ["_law_model", "_law_state_z", "_law_word_z"] spLd := ok_ld  F19 F18 (He.glo_ok X G (c.fact 18 (f := .glo "_law_goal") rfl))
  have b_law_led : Binds K fd19 ["_law_model", "_law_state_z", "_law_word_z"] [] := (FunD.bindsN F19 fun _ _ _ _ _ _ us hl => match us, hl with | [_, _, _], _ => rfl)
  have G_law_words_of : FnOk P w K mg base CX0 2 (He.ga K "_law_words_of") fd20 ["_law_model"] spLw := ok_lw  F20 F18 (He.glo_ok X G (c.fact 18 (f := .glo "_law_goal") rfl)) T
  have b_law_words_of : Binds K fd20 ["_law_model"] [] := (FunD.bindsN F20 fun _ _ _ _ _ _ us hl => match us, hl with | [_], _ => rfl)
  have G_law_odd_word : FnOk P w K mg base CX0 3 (He.ga K "_law_odd_word") fd21 ["_law_bag_here", "_law_signs_here"] spOdw := ok_odw  F21 G_law_of (He.glo_ok X G (c.fact 12 (f := .glo "_law_of") rfl)) (He.keep_ok (c.fact 51 (f := .keep "_law_of") rfl)) b_law_of
  have b_law_odd_word : Binds K fd21 ["_law_bag_here", "_law_signs_here"] [] := (FunD.bindsN F21 fun _ _ _ _ _ _ us hl => match us, hl with | [_, _], _ => rfl)
  have G_law_odd_state : FnOk P w K mg base CX0 3 (He.ga K "_law_odd_state") fd22 ["_law_bag_here", "_law_size"] spOds := ok_ods  F22 G_law_of (He.glo_ok X G (c.fact 12 (f := .glo "_law_of") rfl)) (He.keep_ok (c.fact 51 (f := .keep "_law_of") rfl)) b_law_of
  have b_law_odd_state : Binds K fd22 ["_law_bag_here", "_law_size"] [] := (FunD.bindsN F22 fun _ _ _ _ _ _ us hl => match us, hl with | [_, _], _ => rfl)
  have G_law_odd_count : FnOk P w K mg base CX0 3 (He.ga K "_law_odd_count") fd23 ["_law_bag_here"] spOdc := ok_odc  F23 G_law_of (He.glo_ok X G (c.fact 12 (f := .glo "_law_of") rfl)) (He.keep_ok (c.fact 51 (f := .keep "_law_of") rfl)) b_law_of
  have b_law_odd_count : Binds K fd23 ["_law_bag_here"] [] := (FunD.bindsN F23 fun _ _ _ _ _ _ us hl => match us, hl with | [_], _ => rfl)
  have GofS : FnOk P w K mg base CX0 2 (He.ga K "_law_of") fd12 ["_law_bag_here", "_law_things"] spOfS := ok_ofS F12 F11 (He.glo_ok X G (c.fact 11 (f := .glo "_law_pull") rfl)) (He.free_ok X G (c.fact 32 (f := .free "len") rfl)) (He.free_ok X G (c.fact 30 (f := .free "int") rfl))
  have GTxt : FnOk P w K mg base CX0 3 (He.ga K "_law_text") fd35 ["_law_bag_here", "_law_signs_here", "_law_most"] spTxt := ok_txt F35 (He.free_ok X G (c.fact 36 (f := .free "range") rfl)) G_law_pull (He.glo_ok X G (c.fact 11 (f := .glo "_law_pull") rfl)) (He.keep_ok (c.fact 50 (f := .keep "_law_pull") rfl)) b_law_pull GofS (He.glo_ok X G (c.fact 12 (f := .glo "_law_of") rfl)) (He.keep_ok (c.fact 51 (f := .keep "_law_of") rfl)) b_law_of
  have kFld := (He.keep_ok (c.fact 83 (f := .keep "_law_field") rfl))
  have gFld := (He.glo_ok X G (c.fact 82 (f := .glo "_law_field") rfl))
  have bFld : Binds K fd36 ["_law_e"] [] := (FunD.bindsN F36 fun _ _ _ _ _ _ us hl => match us, hl with | [_], _ => rfl)
  have gT := (He.glo_ok X G (c.fact 84 (f := .glo "_law_try") rfl))
  have bTry : Binds K fd37 ["_law_ask"] [] := (FunD.bindsN F37 fun _ _ _ _ _ _ us hl => match us, hl with | [_], _ => rfl)
  have hTry : ∀ base : Heap, FnOk P w K mg base CX0 15 (He.ga K "_law_try") fd37 ["_law_ask"] (spTry P w K mg (He.ga K "TeamError") (He.ga K "Missing") (He.ga K "NothingLeft") 11 base) := fun base => ok_try F37 F36 gFld kFld bFld (He.glo_ok X G (c.fact 88 (f := .glo "TeamError") rfl)) (He.glo_ok X G (c.fact 89 (f := .glo "Missing") rfl)) (He.glo_ok X G (c.fact 90 (f := .glo "NothingLeft") rfl))
  have hTries : ∀ base : Heap, FnOk P w K mg base CX0 16 (He.ga K "_law_tries") fd38 ["_law_asks"] (spTries P w K mg (He.ga K "TeamError") (He.ga K "Missing") (He.ga K "NothingLeft") 11 base) := fun base => ok_tries F38 F37 gT F36 gFld kFld bFld (He.glo_ok X G (c.fact 88 (f := .glo "TeamError") rfl)) (He.glo_ok X G (c.fact 89 (f := .glo "Missing") rfl)) (He.glo_ok X G (c.fact 90 (f := .glo "NothingLeft") rfl))
  refine ok_law lkL hcdL ?_ TB
  exact {
    T := T
    brange := (He.free_ok X G (c.fact 36 (f := .free "range") rfl))
    fdBag := fd10
    GBag := G_law_bag
    gBag := (He.glo_ok X G (c.fact 10 (f := .glo "_law_bag") rfl))
    kBag := (He.keep_ok (c.fact 49 (f := .keep "_law_bag") rfl))
    bBag := b_law_bag
    fdPull := fd11
    GPull := G_law_pull
    gPull := (He.glo_ok X G (c.fact 11 (f := .glo "_law_pull") rfl))
    kPull := (He.keep_ok (c.fact 50 (f := .keep "_law_pull") rfl))
    bPull := b_law_pull
    fdSg := fd14
    GSg := G_law_signs
    gSg := (He.glo_ok X G (c.fact 14 (f := .glo "_law_signs") rfl))
    kSg := (He.keep_ok (c.fact 53 (f := .keep "_law_signs") rfl))
    bSg := b_law_signs
    fdSame := fd13
    GSame := G_law_same
    gSame := (He.glo_ok X G (c.fact 13 (f := .glo "_law_same") rfl))
    kSame := (He.keep_ok (c.fact 52 (f := .keep "_law_same") rfl))
    bSame := b_law_same
    fdLm := fd16
    GLm := G_law_machine
    gLm := (He.glo_ok X G (c.fact 16 (f := .glo "_law_machine") rfl))
    kLm := (He.keep_ok (c.fact 55 (f := .keep "_law_machine") rfl))
    bLm := b_law_machine
    fdMd := fd17
    GMd := G_law_made
    gMd := (He.glo_ok X G (c.fact 17 (f := .glo "_law_made") rfl))
    kMd := (He.keep_ok (c.fact 56 (f := .keep "_law_made") rfl))
    bMd := b_law_made
    fdLd := fd19
    GLd := G_law_led
    gLd := (He.glo_ok X G (c.fact 19 (f := .glo "_law_led") rfl))
    kLd := (He.keep_ok (c.fact 58 (f := .keep "_law_led") rfl))
    bLd := b_law_led
    fdLw := fd20
    GLw := G_law_words_of
    gLw := (He.glo_ok X G (c.fact 20 (f := .glo "_law_words_of") rfl))
    kLw := (He.keep_ok (c.fact 59 (f := .keep "_law_words_of") rfl))
    bLw := b_law_words_of
    fdOdw := fd21
    GOdw := G_law_odd_word
    gOdw := (He.glo_ok X G (c.fact 21 (f := .glo "_law_odd_word") rfl))
    kOdw := (He.keep_ok (c.fact 60 (f := .keep "_law_odd_word") rfl))
    bOdw := b_law_odd_word
    fdOds := fd22
    GOds := G_law_odd_state
    gOds := (He.glo_ok X G (c.fact 22 (f := .glo "_law_odd_state") rfl))
    kOds := (He.keep_ok (c.fact 61 (f := .keep "_law_odd_state") rfl))
    bOds := b_law_odd_state
    fdOdc := fd23
    GOdc := G_law_odd_count
    gOdc := (He.glo_ok X G (c.fact 23 (f := .glo "_law_odd_count") rfl))
    kOdc := (He.keep_ok (c.fact 62 (f := .keep "_law_odd_count") rfl))
    bOdc := b_law_odd_count
    fdTry := fd37
    GTry := hTry
    gTry := (He.glo_ok X G (c.fact 84 (f := .glo "_law_try") rfl))
    kTry := (He.keep_ok (c.fact 85 (f := .keep "_law_try") rfl))
    bTry := bTry
    fdTries := fd38
    GTries := hTries
    gTries := (He.glo_ok X G (c.fact 86 (f := .glo "_law_tries") rfl))
    kTries := (He.keep_ok (c.fact 87 (f := .keep "_law_tries") rfl))
    bTries := (FunD.bindsN F38 fun _ _ _ _ _ _ us hl => match us, hl with | [_], _ => rfl)
    fdTxt := fd35
    GTxt := GTxt
    gTxt := (He.glo_ok X G (c.fact 80 (f := .glo "_law_text") rfl))
    kTxt := (He.keep_ok (c.fact 81 (f := .keep "_law_text") rfl))
    bTxt := (FunD.bindsN F35 fun _ _ _ _ _ _ us hl => match us, hl with | [_, _, _], _ => rfl)
    MC := MC
    fBh := _
    fdBh := fd29
    dBh := dMachine_behind
    mBh := (He.meth_ok (c.fact 72 (f := .meth "Machine" "behind") rfl))
    GBh := GMachine_behind
    XBh := fun base => (hX base).1
    bBh := bdMachine_behind
    vBh := vdMachine_behind
    FBh := F29
    fFa := _
    fdFa := fd32
    dFa := dMachine_far
    mFa := (He.meth_ok (c.fact 75 (f := .meth "Machine" "far") rfl))
    GFa := GMachine_far
    XFa := fun base => (hX base).2.1
    bFa := bdMachine_far
    vFa := vdMachine_far
    FFa := F32
    fWt := _
    fdWt := fd33
    mWt := (He.meth_ok (c.fact 76 (f := .meth "Machine" "word_to") rfl))
    GWt := GMachine_word_to
    XWt := fun base => (hX base).2.2
    bWt := bMachine_word_to
    FWt := F33
    eS := errB_ok x5
    eW := errB_ok x6
    eC := errB_ok x7
  }
end K03

namespace K03
open PySem L2 Evl OxK
end K03
open PySem PySem.W PySem.Calls PyProof.Rows
theorem PySem.Challenge.cw_othersknow_k03_words_and_far_words_holds : PySem.Challenge.rw_othersknow_k03_words_and_far_words.Holds := by
  w_on; o_law
  refine HandSHeadRun.head_any (r := OpenLaw.row PySem.Challenge.rw_othersknow_k03_words_and_far_words) (q := view (OpenLaw.row PySem.Challenge.rw_othersknow_k03_words_and_far_words).prog [46]) (H := K03.hk) (ob := K03.ob) (M := 20000) (loose := K03.lse) (d := HandSHeadRun.topDef (OpenLaw.row PySem.Challenge.rw_othersknow_k03_words_and_far_words).prog 46) (kwd := []) K03.ob_eq
    (by kernel_rfl) (fun s => by kernel_rfl) K03.run (by kernel_rfl) (by kernel_rfl) (by kernel_rfl) (by rfl) (by first | assumption | decide +kernel) (by decide +kernel) ⟨rfl, rfl, rfl, rfl, rfl, by decide +kernel⟩ ?hw ?hc
  case hw => w_witness2
  case hc =>
    refine LamX.walk_ofTsE (l := PySem.Challenge.rw_othersknow_k03_words_and_far_words) (n := 63) (k := 18) (x := "_law_script") (CX := fun _ => L2.CX0) rfl (by decide) (by kernel_rfl) ⟨rfl, by decide, by decide⟩ ?F (fun _ _ _ _ _ z => z)
    intro w mg fa h Y G hmg0
    obtain ⟨K, KX, d⟩ := Y
    have hmg : mg ("law" : PySem.Str) = some (.ref fa) := by
      have e : (HandSHeadRun.topDef (OpenLaw.row PySem.Challenge.rw_othersknow_k03_words_and_far_words).prog 46).name = ("law" : PySem.Str) := by kernel_rfl
      rw [← e]
      exact hmg0
    obtain ⟨fd, c, PT, ⟨rfl, rfl⟩, hb, hF⟩ := K03.facts (P := (PySem.Challenge.rw_othersknow_k03_words_and_far_words).prog) (w := w) KX G hmg d
    exact ⟨K, KX, fd, [((He.cT K HkZ.lawD).1, (He.cT K HkZ.lawD).2)], K03.spLaw K (K03.TL (He.cT K HkZ.lawD).2), fun p hp => by rw [List.mem_singleton.mp hp]; exact d.empty, fun p hp => by rw [List.mem_singleton.mp hp]; exact d.out, fun p hp => by rw [List.mem_singleton.mp hp]; exact PySem.W.codeHd_of_K KX d.hd, hb,
      fun H a ns hl _ hT hS => ⟨a, ns, rfl, hS, by omega, fun p hp => by rw [List.mem_singleton.mp hp]; exact LamX.TabS.nil (hT _ List.mem_cons_self), fun _ => rfl⟩, fun base _ _ TB => hF base (TB _ List.mem_cons_self)⟩

