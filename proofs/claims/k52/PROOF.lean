import PyProof.Rows.All
import Wide.All
import OpenK.AllK
import Wide.FinOn
import HandS.ForMost
import HandS.Defaults
import HandS.Codes
import HandS.Evl
import HandS.Exc
import HandS.ExcInit
import HandS.IsInst
import KE.KExcInit
import KE.KExcIs
import HandS.Zip
import KE.GoesMore
import KE.GoesZip
import KE.GoesEnum
import HandS.ClsMeth
import HandS.TupSets
import HandS.FStr
import HandS.SlotsOwn
import PyProof.InstEq
import HandS.Style
import HandS.Replace
import HandS.MakeKwOnly
import HandS.Property
import HandS.HeadNt
import HandS.HeadHook4
import HandS.HotCalls
import HandS.ExcField
import HandS.Lambda
import HandS.TryMany
import KE.KDflt
import HandS.Nested
import HandS.HeadWalk
import HandS.DictComp
import HandS.More
import HandS.Strs
import KE.KIndexOf
import HandS.Comp
import HandS.Text
import PyProof.Rows.StrMul
import PyProof.Rows.StrFit
import KE.KDictZip
import HandS.Star
import KE.KDictDisplayH
import HandS.TupMul
import HandS.DictTup
import KE.DataMinMax
import HandS.SortKw
import HandS.Sort
import HandS.TupAny
import HandS.HeadHook1
import HandS.Conv
import HandS.Head0
import HandS.Head1
import HandS.Head2
import HandS.HeadEnd
import PySem.Challenge.RW_othersknow_k52_report_texts
set_option Elab.async false
set_option linter.all false
set_option maxRecDepth 100000
set_option maxHeartbeats 0
namespace HkY
open PySem PySem.W PySem.Calls PyProof.Rows He He5
def obsY (fa : List Fa) (fn : List DefA) (ex : Frag → Bool) (K : Frag) : He.AlD := (ex K && ((fa.all fun f => f.ok K) && fn.all fun d => d.ok K), fn.map fun d => fnA K (d.at_ K))
def valY (fn : List DefA) : He.AlD := (true, fn.map DefA.val)
def obsYG (n : Nat) (fa : List Fa) (fn : List DefA) (ex : Frag → Bool) (g : Addr → Option Obj) : He.AlD := obsY fa fn ex (frT g (asA g n))
structure SaysY (fa : List Fa) (fn : List DefA) (ex : Frag → Bool) (K : Frag) : Prop where
  eq : obsY fa fn ex K = valY fn
def hookY (n : Nat) (fa : List Fa) (fn : List DefA) (ex : Frag → Bool) : PySem.W.Hook where
  α := He.AlD
  obs := fun s => obsYG n fa fn ex s.heap.get?
  val := fun _ => valY fn
  says := fun _ h => ∃ K : Frag, K.In h ∧ SaysY fa fn ex K
  of := fun _ _ e => ⟨_, frT_in, ⟨e⟩⟩
  keeps := fun _ _ _ ⟨K, hK, c⟩ k => ⟨K, Frag.In.keeps hK k, c⟩
theorem obsYG_eq {n : Nat} {fa : List Fa} {fn : List DefA} {ex : Frag → Bool} {g : Addr → Option Obj} {s : Shared} (h : ∀ a, g a = s.heap.get? a) : obsYG n fa fn ex g = (hookY n fa fn ex).obs s := by
  have e : g = s.heap.get? := funext h
  rw [e] <;> rfl
section
variable {fa : List Fa} {fn : List DefA} {ex : Frag → Bool} {K : Frag}
theorem SaysY.more (c : SaysY fa fn ex K) : ex K = true := (ba (show (ex K && ((fa.all fun f => f.ok K) && fn.all fun d => d.ok K)) = true from congrArg (fun z : He.AlD => z.1) c.eq)).1
theorem SaysY.fact (c : SaysY fa fn ex K) (i : Nat) {f : Fa} (h : fa[i]? = some f := by rfl) : f.ok K = true := by
  have c1 := (ba (ba (show (ex K && ((fa.all fun f => f.ok K) && fn.all fun d => d.ok K)) = true from congrArg (fun z : He.AlD => z.1) c.eq)).2).1
  exact List.all_eq_true.mp c1 f (List.mem_of_getElem? h)
theorem SaysY.def_ (c : SaysY fa fn ex K) (i : Nat) {d : DefA} (h : fn[i]? = some d := by rfl) : ∃ fd, L2.FunD K d.name d.qual d.params d.body d.scope (d.dvs K) (d.kws K) (d.at_ K) fd := by
  have c2 := (ba (ba (show (ex K && ((fa.all fun f => f.ok K) && fn.all fun d => d.ok K)) = true from congrArg (fun z : He.AlD => z.1) c.eq)).2).2
  have e : fn.map (fun d => fnA K (d.at_ K)) = fn.map DefA.val := congrArg (fun z : He.AlD => z.2) c.eq
  have e2 : (fn.map fun d => fnA K (d.at_ K))[i]? = (fn.map DefA.val)[i]? := by rw [e]
  rw [List.getElem?_map, List.getElem?_map, h] at e2
  exact DefA.funD (Option.some.inj e2) (List.all_eq_true.mp c2 d (List.mem_of_getElem? h))
end
/-- a property of the class at C -/
def propB (K : Frag) (C : Addr) (f : PySem.Str) : Bool := decide (findIn K (.ref C) f = some (some (.ref (ma K C f)))) && (decide (specialIn K (.ref (ma K C f)) "__get__" = some (some (.builtin "property.__get__"))) && (decide (takesIn K (.ref (ma K C f)) = some true) &&
  (match recIn K (ma K C f) "property" with | some (.ref _ :: _) => true | _ => false)))
theorem propB_ok {K : Frag} {C : Addr} {f : PySem.Str} (h : propB K C f = true) : L2.PropOf K C f (ma K C f) (wf K C "property" f) := by
  obtain ⟨h1, h⟩ := ba h
  obtain ⟨h2, h⟩ := ba h
  obtain ⟨h3, h4⟩ := ba h
  refine ⟨of_decide_eq_true h1, of_decide_eq_true h2, of_decide_eq_true h3, ?_⟩
  unfold wf
  split at h4
  · rename_i g r e
    exact ⟨r, by rw [e]⟩
  · cases h4
/-- a constant, a whole number, of the class at C -/
def conB (K : Frag) (C : Addr) (f : PySem.Str) (n : Int) : Bool := readsIn K C (.type "type") && (decide (specialIn K (.ref C) "__getattribute__" = some (some (.builtin "type.__getattribute__"))) && (match findCls K (.ref C) (.type "type") f with | some (.val (.int j _)) => decide (j = n) | _ => false))
theorem conB_ok {K : Frag} {C : Addr} {f : PySem.Str} {n : Int} (h : conB K C f n = true) : ∃ mc u, ClX.CRead K C mc ∧ ClX.CVal K C mc f (.int n) u := by
  obtain ⟨h1, h⟩ := ba h
  obtain ⟨h2, h3⟩ := ba h
  split at h3
  · rename_i j t e
    have q := of_decide_eq_true h3
    subst q
    exact ⟨.type "type", .int j t, ⟨h1, of_decide_eq_true h2⟩, ⟨e, ⟨t, rfl⟩⟩⟩
  · cases h3
end HkY
namespace HkZ
open PySem PySem.W PySem.Calls PyProof.Rows He He5
def lawD : He.Defn := ("law", none)
def obsZ (n : Nat) (fa : List Fa) (fn : List DefA) (ex : Frag → Bool) (g : Addr → Option Obj) : He.AlD :=
  ((HkY.obsY fa fn ex (frT g (asA g n))).1 && He.tabsB g [lawD] (frT g (asA g n)), (HkY.obsY fa fn ex (frT g (asA g n))).2)
structure SaysZ (fa : List Fa) (fn : List DefA) (ex : Frag → Bool) (h : Heap) (K : Frag) : Prop where
  y : HkY.SaysY fa fn ex K
  hd : codeHdIn K (He.cT K lawD).1 (He.cT K lawD).2 = true
  out : K.lookup (He.cT K lawD).2 = none
  empty : h.get? (He.cT K lawD).2 = some { cls := .none, data := .fields #[] }
theorem saysZ_of {n : Nat} {fa : List Fa} {fn : List DefA} {ex : Frag → Bool} {h : Heap} (e : obsZ n fa fn ex h.get? = HkY.valY fn) : SaysZ fa fn ex h (frT h.get? (asA h.get? n)) := by
  have e1 : ((HkY.obsY fa fn ex (frT h.get? (asA h.get? n))).1 && He.tabsB h.get? [lawD] (frT h.get? (asA h.get? n))) = true := congrArg (fun z : He.AlD => z.1) e
  have e2 : (HkY.obsY fa fn ex (frT h.get? (asA h.get? n))).2 = fn.map DefA.val := congrArg (fun z : He.AlD => z.2) e
  obtain ⟨h1, h2⟩ := ba e1
  unfold He.tabsB at h2
  obtain ⟨h3, h4⟩ := ba (List.all_eq_true.mp h2 lawD List.mem_cons_self)
  obtain ⟨o, q, z⟩ : ∃ o, h.get? (He.cT (frT h.get? (asA h.get? n)) lawD).2 = some o ∧ He.emptyTab o = true := by
    cases q : h.get? (He.cT (frT h.get? (asA h.get? n)) lawD).2 with
    | none =>
      rw [q] at h4
      cases h4
    | some o =>
      rw [q] at h4
      exact ⟨o, rfl, h4⟩
  refine ⟨⟨Prod.ext (h1.trans rfl) e2⟩, h3, He.frT_none q z, ?_⟩
  rw [q, He.emptyTab_eq z]
def hookZ (n : Nat) (fa : List Fa) (fn : List DefA) (ex : Frag → Bool) : PySem.W.Hook where
  α := He.AlD
  obs := fun s => obsZ n fa fn ex s.heap.get?
  val := fun _ => HkY.valY fn
  says := fun _ h => ∃ K : Frag, K.In h ∧ SaysZ fa fn ex h K
  of := fun _ _ e => ⟨_, frT_in, saysZ_of e⟩
  keeps := fun _ _ _ ⟨K, hK, c⟩ k => ⟨K, Frag.In.keeps hK k, ⟨c.y, c.hd, c.out, k _ _ c.empty⟩⟩
theorem obsZ_eq {n : Nat} {fa : List Fa} {fn : List DefA} {ex : Frag → Bool} {g : Addr → Option Obj} {s : Shared} (h : ∀ a, g a = s.heap.get? a) : obsZ n fa fn ex g = (hookZ n fa fn ex).obs s := by
  have e : g = s.heap.get? := funext h
  rw [e] <;> rfl
end HkZ
namespace HkW
open PySem PySem.W PySem.Calls PyProof.Rows He He5 HkZ
def obsW (as : List Addr) (fa : List Fa) (fn : List DefA) (ex : Frag → Bool) (g : Addr → Option Obj) : He.AlD :=
  ((HkY.obsY fa fn ex (frT g as)).1 && He.tabsB g [lawD] (frT g as), (HkY.obsY fa fn ex (frT g as)).2)
theorem saysW_of {as : List Addr} {fa : List Fa} {fn : List DefA} {ex : Frag → Bool} {h : Heap} (e : obsW as fa fn ex h.get? = HkY.valY fn) : SaysZ fa fn ex h (frT h.get? as) := by
  have e1 : ((HkY.obsY fa fn ex (frT h.get? as)).1 && He.tabsB h.get? [lawD] (frT h.get? as)) = true := congrArg (fun z : He.AlD => z.1) e
  have e2 : (HkY.obsY fa fn ex (frT h.get? as)).2 = fn.map DefA.val := congrArg (fun z : He.AlD => z.2) e
  obtain ⟨h1, h2⟩ := ba e1
  unfold He.tabsB at h2
  obtain ⟨h3, h4⟩ := ba (List.all_eq_true.mp h2 lawD List.mem_cons_self)
  obtain ⟨o, q, z⟩ : ∃ o, h.get? (He.cT (frT h.get? as) lawD).2 = some o ∧ He.emptyTab o = true := by
    cases q : h.get? (He.cT (frT h.get? as) lawD).2 with
    | none =>
      rw [q] at h4
      cases h4
    | some o =>
      rw [q] at h4
      exact ⟨o, rfl, h4⟩
  refine ⟨⟨Prod.ext (h1.trans rfl) e2⟩, h3, He.frT_none q z, ?_⟩
  rw [q, He.emptyTab_eq z]
def hookW (as : List Addr) (fa : List Fa) (fn : List DefA) (ex : Frag → Bool) : PySem.W.Hook where
  α := He.AlD
  obs := fun s => obsW as fa fn ex s.heap.get?
  val := fun _ => HkY.valY fn
  says := fun _ h => ∃ K : Frag, K.In h ∧ SaysZ fa fn ex h K
  of := fun _ _ e => ⟨_, frT_in, saysW_of e⟩
  keeps := fun _ _ _ ⟨K, hK, c⟩ k => ⟨K, Frag.In.keeps hK k, ⟨c.y, c.hd, c.out, k _ _ c.empty⟩⟩
theorem obsW_eq {as : List Addr} {fa : List Fa} {fn : List DefA} {ex : Frag → Bool} {g : Addr → Option Obj} {s : Shared} (h : ∀ a, g a = s.heap.get? a) : obsW as fa fn ex g = (hookW as fa fn ex).obs s := by
  have e : g = s.heap.get? := funext h
  rw [e] <;> rfl
end HkW
namespace L2
open PySem PySem.Spec PyProof.Rows
def tagNs : List Str := ["tag", "given", "most", "name", "index", "limit", "word", "line"]
def tagB (K : PySem.W.Frag) (C : Addr) : Bool := xfB K C && tagNs.all fun n => decide (PySem.W.findIn K (.ref C) n = some none)
end L2
namespace K52
open PySem L2 Evl
def raB (K : PySem.W.Frag) (C : Addr) : Bool := PySem.W.excInitIn K C PySem.HandSPX.veTail "ValueError.__new__" && (PySem.W.excOver K C PySem.HandSPX.veTail && (PySem.W.hasDictIn K C && (decide (PySem.W.findIn K (.ref C) "__setattr__" = some (some (.builtin "object.__setattr__"))) && (decide (PySem.W.findIn K (.ref C) "__getattribute__" = some (some (.builtin "BaseException.__getattribute__"))) && (decide (PySem.W.findIn K (.ref C) "__getattr__" = some none) && (decide (PySem.W.subIn K (.ref C) (.type "BaseException") = some true) && (decide (PySem.W.typeIn K (.ref C) = some (.type "type")) && (PySem.W.keepIn K (.ref C) && (tagB K C && (decide (PySem.W.findIn K (.ref C) "__init__" = some (some (.ref (He.ma K C "__init__")))) && (decide (PySem.W.typeIn K (.ref (He.ma K C "__init__")) = some (.type "function")))))))))))))
def errB (K : PySem.W.Frag) (C1 C : Addr) : Bool := tagB K C && decide (PySem.W.exmOne K (.ref C) (.ref C1) = some true)
def top (i : Nat) : Stmt := PySem.Challenge.pw_othersknow_k52_report_texts.main.body.getD i (.Pass ⟨0, 0, 0, 0⟩)
abbrev sBag : Stmt := top 12
abbrev sPull : Stmt := top 13
abbrev sOf : Stmt := top 14
abbrev sSame : Stmt := top 15
abbrev sFeld : Stmt := top 16
abbrev sTry : Stmt := top 17
abbrev iInvalidText : Stmt := inClass (top 3) 0
abbrev sNin : Stmt := top 7
abbrev sRtx : Stmt := top 8
abbrev sRnm : Stmt := top 9
abbrev sRrp : Stmt := top 10
abbrev sDgt : Stmt := top 18
abbrev sLaw : Stmt := top 19
def exB (K : PySem.W.Frag) : Bool := raB K (He.ga K "InvalidText") && (errB K (He.ga K "TeamError") (He.ga K "InvalidText"))
def fn : List He5.DefA := [
  ⟨fun K => He.ga K "number_in", "number_in", "number_in", defArgs sNin, defBody sNin, defScope sNin, [], []⟩,
  ⟨fun K => He.ga K "report_text", "report_text", "report_text", defArgs sRtx, defBody sRtx, defScope sRtx, [], []⟩,
  ⟨fun K => He.ga K "read_number", "read_number", "read_number", defArgs sRnm, defBody sRnm, defScope sRnm, [], []⟩,
  ⟨fun K => He.ga K "read_report", "read_report", "read_report", defArgs sRrp, defBody sRrp, defScope sRrp, [], []⟩,
  ⟨fun K => He.ga K "_law_bag", "_law_bag", "_law_bag", defArgs sBag, defBody sBag, defScope sBag, [], []⟩,
  ⟨fun K => He.ga K "_law_pull", "_law_pull", "_law_pull", defArgs sPull, defBody sPull, defScope sPull, [], []⟩,
  ⟨fun K => He.ga K "_law_of", "_law_of", "_law_of", defArgs sOf, defBody sOf, defScope sOf, [], []⟩,
  ⟨fun K => He.ga K "_law_same", "_law_same", "_law_same", defArgs sSame, defBody sSame, defScope sSame, [], []⟩,
  ⟨fun K => He.ga K "_law_is_digits", "_law_is_digits", "_law_is_digits", defArgs sDgt, defBody sDgt, defScope sDgt, [], []⟩,
  ⟨fun K => He.ga K "law", "law", "law", defArgs sLaw, defBody sLaw, defScope sLaw, [], []⟩,
  ⟨fun K => He.ga K "_law_field", "_law_field", "_law_field", defArgs sFeld, defBody sFeld, defScope sFeld, [], []⟩,
  ⟨fun K => He.ga K "_law_try", "_law_try", "_law_try", defArgs sTry, defBody sTry, defScope sTry, [], []⟩,
  ⟨fun K => He.ma K (He.ga K "InvalidText") "__init__", "__init__", "InvalidText.__init__", defArgs iInvalidText, defBody iInvalidText, defScope iInvalidText, [], []⟩]
def fa : List He.Fa := [.glo "number_in", .glo "report_text", .glo "read_number", .glo "read_report", .glo "_law_bag", .glo "_law_pull", .glo "_law_of", .glo "_law_same", .glo "_law_is_digits", .glo "law", .free "isinstance", .free "list", .free "tuple", .free "bool", .free "int", .free "str", .free "len", .free "all", .free "zip", .free "dict", .free "range", .keep "number_in", .keep "report_text", .keep "read_number", .keep "read_report", .keep "_law_bag", .keep "_law_pull", .keep "_law_of", .keep "_law_same", .keep "_law_is_digits", .int "MOST_DIGITS" 31, .glo "_law_field", .keep "_law_field", .glo "_law_try", .keep "_law_try", .glo "TeamError", .glo "Missing", .glo "NothingLeft", .glo "InvalidText"]
abbrev R : PySem.W.OpenRow := PySem.W.OpenLaw.row PySem.Challenge.rw_othersknow_k52_report_texts
def asL : List Addr := [3, 6, 4, 24, 37, 57, 76, 84, 89, 96, 101, 108, 115, 122, 127, 134, 141, 146, 151, 0, 23, 36, 56, 75, 83, 88, 95, 100, 107, 114, 121, 126, 133, 140, 145, 150, 22, 25, 35, 38, 54, 55, 73, 74, 77, 80, 81, 82, 85, 86, 87, 90, 91, 92, 93, 94, 97, 98, 99, 102, 103, 104, 105, 106, 109, 110, 111, 112, 113, 116, 117, 118, 119, 120, 123, 124, 125, 128, 129, 130, 131, 132, 135, 136, 137, 138, 139, 142, 143, 144, 147, 148, 149, 53, 72, 48, 49, 50, 51, 52, 67, 68, 69, 70, 71, 2]
abbrev hk : PySem.W.Hook := HkW.hookW asL fa fn exB
def ob (s : PySem.W.SharedT) : He.AlD := HkW.obsW asL fa fn exB (HandSHeadRun.getT s)
theorem ob_eq (s : PySem.W.SharedT) : ob s = hk.obs s.abs := HkW.obsW_eq (HandSHeadRun.getT_eq s)
abbrev lse : List Str := "TeamError" :: "Missing" :: "InvalidText" :: "NothingLeft" :: "MOST_DIGITS" :: "number_in" :: "report_text" :: "read_number" :: "read_report" :: "_law_bag" :: "_law_pull" :: "_law_of" :: "_law_same" :: "_law_field" :: "_law_try" :: "_law_is_digits" :: []
theorem run (w : World) : HandSHeadRun.RunEq R (PySem.W.view R.prog [19]) hk ob 20000 lse w := by
  intro os
  kernel_rfl
end K52
/-! The draws: a bag of the script's numbers. What is told of a draw: it lies in its range. -/
namespace K52
open PySem L2 Evl
abbrev FnP (K : PySem.W.Frag) (x : Str) (st : Stmt) (f : Addr) (fd : FuncData) : Prop := FunD K x x (defArgs st) (defBody st) (defScope st) [] [] f fd
/-- the bag at b with its list at l -/
def Bag (H : Hp) (b l : Addr) (ns : List Int) : Prop := b ≠ l ∧ H l = some (.lst (ns.map V.int)) ∧ ns.length ≤ 1000 ∧
  ∃ i j s : Int, H b = some (.lst [.ref l, .int i, .int j, .int s]) ∧ 0 ≤ i ∧ 0 ≤ j ∧ 0 ≤ s ∧ s < 2147483579
/-- all but b stands -/
def But (b : Addr) (H H' : Hp) : Prop := ∀ c, c ≠ b → H' c = H c
def spPull : Sp := fun vs H Q _ => ∃ (b l : Addr) (ns : List Int) (m : Int), vs = [.ref b, .int m] ∧ 0 < m ∧ m < 1073741824 ∧ Bag H b l ns ∧
  ∀ (r : Int) (H' : Hp), 0 ≤ r → r < m → Bag H' b l ns → But b H H' → Q (.int r) H'
def spOf (K : PySem.W.Frag) : Sp := fun vs H Q _ => ∃ (b l t : Addr) (ns : List Int) (ts : List V), vs = [.ref b, .ref t] ∧ SqL K H t ts ∧ 0 < ts.length ∧ ts.length < 100000 ∧ t ≠ b ∧ (∀ H', But b H H' → SqL K H' t ts) ∧ Bag H b l ns ∧
  ∀ (k : Nat) (v : V) (H' : Hp), ts[k]? = some v → Bag H' b l ns → But b H H' → Q v H'
def spBag (K : PySem.W.Frag) : Sp := fun vs H Q _ => ∃ (a : Addr) (ns : List Int), vs = [.ref a] ∧ SqL K H a (ns.map V.int) ∧ ns.length ≤ 1000 ∧
  ∀ (b l : Addr) (ms : List Int) (H' : Hp), Same H H' → H b = none → H l = none → Bag H' b l ms → Q (.ref b) H'
section
variable {P : Program} {w : World} {K : PySem.W.Frag} {mg : Str → Option Value} {base : Heap} {f : Addr} {fd : FuncData}
theorem scP : FnScope ["_law_bag_here", "_law_amount", "_law_cell", "_law_got", "_law_seed"] ["_law_bag_here", "_law_amount"] (defScope sPull) := ⟨rfl, rfl, rfl, by decide +kernel, rfl, by decide +kernel, by decide +kernel⟩
/-- a field of the bag -/
abbrev bx {X : Cx} {p q r : Pos} {i : Int} {j : Nat} (h : PE X (.Name "_law_bag_here" p) (tVar 0) := by exact pv 0) : PE X (.Subscript (.Name "_law_bag_here" p) (.Constant (.int i) j q) r) (tOp (rIxL X.K) (tVar 0) (tC (.int i))) :=
  pe_ix ix_list h pe_int (fun _ _ => rfl)
theorem ok_pull (F : FnP K "_law_pull" sPull f fd) (gL : mg "len" = none) (gI : mg "int" = none) : FnOk P w K mg base CX0 1 f fd ["_law_bag_here", "_law_amount"] spPull := by
  refine F.ok scP (fun vs H Q E h => ?_) (fun cdv A outer s H vs Q E hr h => ?_)
  · obtain ⟨b, l, ns, m, rfl, _⟩ := h
    rfl
  · obtain ⟨b, l, ns, m, rfl, m0, m1, ⟨nbl, hl, hln, i, j, sd, hb, i0, j0, s0, s1⟩, k⟩ := h
    refine ⟨_, PSs.nox (pss_cut
      (ps_if (PW.pt (pw_and (pt_cmpR op_eq (bx (pv 0)) pe_int (nomark _)) (pw_and1 (pt_cmpR op_lt (bx (pv 0)) (pe_callB call_len_seq (by rfl) gL PySem.boot_len (pa_cons (bx (pv 0)) pa_nil)) (nomark _)))))
        (pss_cons (ps_set (i := 2) scP.nd rfl (Or.inl rfl) (pe_ix ix_list (bx (pv 0)) (bx (pv 0)) (fun _ _ => rfl)))
        (pss_cons (ps_asg (pe_op op_add (bx (pv 0)) pe_int) (pg_sub (pv 0) pe_int set_list))
        (pss_one (ps_if (pt_cmpR op_ge (pv 2) (pe_op op_pow pe_int pe_int) (nomark _))
          (pss_one (ps_asg (pv 2) (pg_sub (pv 0) pe_int set_list)))
          (pss_one (ps_asg (pe_op op_mod (pe_callTy call_int1 (by rfl) gI (by decide +kernel) (pa_cons (pe_op op_add (pe_op op_add (pe_op op_mul (bx (pv 0)) pe_int) (pe_op op_mul (pe_op op_mod (pe_callTy call_int1 (by rfl) gI (by decide +kernel) (pa_cons (pv 2) pa_nil)) pe_int) pe_int)) pe_int) pa_nil)) pe_int) (pg_sub (pv 0) pe_int set_list)))))))
        pss_nil)
      (pss_cons (ps_if (pt_cmpR op_gt (bx (pv 0)) pe_int (nomark _))
        (pss_cons (ps_set (i := 3) scP.nd rfl (Or.inl rfl) (pe_op op_mod (pe_callTy call_int1 (by rfl) gI (by decide +kernel) (pa_cons (bx (pv 0)) pa_nil)) (pv 1)))
        (pss_cons (ps_asg (pe_op op_fdiv (bx (pv 0)) (pv 1)) (pg_sub (pv 0) pe_int set_list))
        (pss_one (ps_ret (pv 3)))))
        pss_nil)
      (pss_cons (ps_set (i := 4) scP.nd rfl (Or.inl rfl) (bx (pv 0)))
      (pss_cons (ps_asg (pe_op op_mod (pe_callTy call_int1 (by rfl) gI (by decide +kernel) (pa_cons (pe_op op_add (pe_op op_add (pe_op op_mul (pv 4) (pv 4)) (pe_op op_mul (pv 4) pe_int)) pe_int) pa_nil)) pe_int) (pg_sub (pv 0) pe_int set_list))
      (pss_one (ps_ret (pe_op op_mod (pe_callTy call_int1 (by rfl) gI (by decide +kernel) (pa_cons (pe_op op_add (pe_op op_fdiv (bx (pv 0)) pe_int) (pe_op op_mul (pe_op op_mod (pe_callTy call_int1 (by rfl) gI (by decide +kernel) (pa_cons (bx (pv 0)) pa_nil)) pe_int) pe_int)) pa_nil)) (pv 1)))))))), ?_⟩
    -- what stands between the first if and the rest
    refine ⟨fun σ1 H1 => (∃ u, σ1 = [some (.ref b), some (.int m), u, none, none]) ∧ But b H H1 ∧ ∃ i j sd : Int, H1 b = some (.lst [.ref l, .int i, .int j, .int sd]) ∧ 0 ≤ i ∧ 0 ≤ j ∧ 0 ≤ sd ∧ sd < 2147483579, ?_, ?_⟩
    · -- the first if
      refine ⟨_, rfl, b, _, 2, _, rfl, rfl, SqL.of hb, rfl, rfl, _, rfl, ?_⟩
      refine ite2 (fun ej => ?_) (fun _ => ⟨⟨none, rfl⟩, fun _ _ => rfl, i, j, sd, hb, i0, j0, s0, s1⟩)
      refine ⟨_, rfl, b, _, 1, _, rfl, rfl, SqL.of hb, rfl, _, rfl, b, _, 0, _, rfl, rfl, SqL.of hb, rfl, l, _, rfl, .inl (SqL.of hl), _, _, rfl, rfl, _, rfl, ?_⟩
      refine ite2 (fun hlt => ?_) (fun _ => ⟨⟨none, rfl⟩, fun _ _ => rfl, i, j, sd, hb, i0, j0, s0, s1⟩)
      have hlt' : i < ((ns.map V.int).length : Int) := of_decide_eq_true hlt
      rw [List.length_map] at hlt'
      obtain ⟨n, rfl⟩ : ∃ n : Nat, i = (n : Int) := ⟨i.toNat, by omega⟩
      have hn : n < ns.length := by omega
      have hat : (ns.map V.int)[n]? = some (V.int ns[n]) := by rw [List.getElem?_map, List.getElem?_eq_getElem hn]; rfl
      -- cell = bag[0][bag[1]]
      refine ⟨_, rfl, b, _, 0, _, rfl, rfl, SqL.of hb, rfl, _, rfl, b, _, 1, _, rfl, rfl, SqL.of hb, rfl, l, _, _, _, rfl, rfl, SqL.of hl, atI_nat hat, ?_⟩
      -- bag[1] = bag[1] + 1
      refine ⟨_, rfl, b, _, 1, _, rfl, rfl, SqL.of hb, rfl, _, _, rfl, rfl, _, rfl, b, _, 1, 1, rfl, rfl, hb, rfl, ?_⟩
      refine ⟨_, rfl, _, _, rfl, rfl, (by show (0 : Int) ≤ 18 ∧ (18 : Int) ≤ 1000000 ∧ (10 : Int).natAbs < 2 ^ 64; decide), _, _, rfl, rfl, _, rfl, ?_⟩
      have bb : But b H (upd H b (.lst [.ref l, .int (n : Int), .int j, .int sd])) := fun c hc => upd_ne hc
      refine ite2 (fun hge => ?_) (fun hge => ?_)
      · have hge' : (10 : Int) ^ 18 ≤ ns[n] := of_decide_eq_true hge
        refine ⟨_, rfl, _, rfl, b, _, 2, 2, rfl, rfl, upd_same, rfl, ?_⟩
        refine ⟨⟨_, rfl⟩, fun c hc => by rw [upd_ne hc, upd_ne hc], (n : Int) + 1, ns[n], sd, upd_same, by omega, ?_, s0, s1⟩
        exact Int.le_trans (by decide) hge'
      · refine ⟨_, rfl, b, _, 3, _, rfl, rfl, SqL.of upd_same, rfl, _, _, rfl, rfl, .inl ⟨by omega, by omega⟩, ?_⟩
        refine ⟨_, rfl, .inl ⟨_, rfl, _, _, rfl, rfl, (by show (0 : Int) < 2147483399; decide), _, _, rfl, rfl, .inr ⟨by decide, by decide⟩, _, _, rfl, rfl, _, _, rfl, rfl, .inl ⟨_, rfl, _, _, rfl, rfl, (by show (0 : Int) < 2147483579; decide), ?_⟩⟩⟩
        refine ⟨_, rfl, b, _, 3, 3, rfl, rfl, upd_same, rfl, ?_⟩
        refine ⟨⟨_, rfl⟩, fun c hc => by rw [upd_ne hc, upd_ne hc], (n : Int) + 1, j, _, upd_same, by omega, j0, ?_, ?_⟩
        · exact Int.emod_nonneg _ (by decide)
        · exact Int.emod_lt_of_pos _ (by decide)
    · rintro σ1 H1 ⟨⟨u, rfl⟩, hB, i, j, sd, hb, i0, j0, s0, s1⟩
      have hl1 : H1 l = some (.lst (ns.map V.int)) := (hB l nbl.symm).trans hl
      refine ⟨_, rfl, b, _, 2, _, rfl, rfl, SqL.of hb, rfl, _, _, rfl, rfl, _, rfl, ?_⟩
      refine ite2 (fun hpos => ?_) (fun _ => ?_)
      · have hpos' : (0 : Int) < j := of_decide_eq_true hpos
        refine ⟨_, rfl, b, _, 2, _, rfl, rfl, SqL.of hb, rfl, .inl ⟨_, rfl, _, rfl, _, _, rfl, rfl, m0, ?_⟩⟩
        refine ⟨_, rfl, b, _, 2, _, rfl, rfl, SqL.of hb, rfl, _, rfl, _, _, rfl, rfl, ⟨m0, m1⟩, _, rfl, b, _, 2, 2, rfl, rfl, hb, rfl, ?_⟩
        refine ⟨_, rfl, ?_⟩
        refine k _ _ (Int.emod_nonneg _ (by omega)) (Int.emod_lt_of_pos _ m0) ⟨nbl, by rw [upd_ne nbl.symm]; exact hl1, hln, i, j / m, sd, upd_same, i0, Int.ediv_nonneg j0 (by omega), s0, s1⟩ fun c hc => by rw [upd_ne hc]; exact hB c hc
      · refine ⟨_, rfl, b, _, 3, _, rfl, rfl, SqL.of hb, rfl, ?_⟩
        refine ⟨_, rfl, _, rfl, _, _, rfl, rfl, .inl ⟨by omega, by omega⟩, _, rfl, _, _, rfl, rfl, .inl ⟨by omega, by omega⟩, _, _, rfl, rfl, _, _, rfl, rfl, .inl ⟨_, rfl, _, _, rfl, rfl, (by show (0 : Int) < 2147483579; decide), ?_⟩⟩
        refine ⟨_, rfl, b, _, 3, 3, rfl, rfl, hb, rfl, ?_⟩
        refine ⟨_, rfl, b, _, 3, _, rfl, rfl, SqL.of upd_same, rfl, _, _, rfl, rfl, ⟨by decide, by decide⟩, _, rfl, b, _, 3, _, rfl, rfl, SqL.of upd_same, rfl, .inl ⟨_, rfl, _, _, rfl, rfl, (by show (0 : Int) < 8111; decide), _, _, rfl, rfl, .inr ⟨by decide, by decide⟩, _, _, rfl, rfl, .inl ⟨_, rfl, _, rfl, _, _, rfl, rfl, m0, ?_⟩⟩⟩
        refine k _ _ (Int.emod_nonneg _ (by omega)) (Int.emod_lt_of_pos _ m0) ⟨nbl, by rw [upd_ne nbl.symm]; exact hl1, hln, i, j, _, upd_same, i0, j0, Int.emod_nonneg _ (by decide), Int.emod_lt_of_pos _ (by decide)⟩ fun c hc => by rw [upd_ne hc]; exact hB c hc
theorem scO : FnScope ["_law_bag_here", "_law_things"] ["_law_bag_here", "_law_things"] (defScope sOf) := ⟨rfl, rfl, rfl, by decide +kernel, rfl, by decide +kernel, by decide +kernel⟩
theorem ok_of {fP : Addr} {fdP : FuncData} (F : FnP K "_law_of" sOf f fd) (FP : FnP K "_law_pull" sPull fP fdP) (gP : mg "_law_pull" = some (.ref fP)) (gL : mg "len" = none) (gI : mg "int" = none) :
    FnOk P w K mg base CX0 2 f fd ["_law_bag_here", "_law_things"] (spOf K) := by
  have GP : FnOk P w K mg base CX0 1 fP fdP ["_law_bag_here", "_law_amount"] spPull := ok_pull FP gL gI
  have bP : Binds K fdP ["_law_bag_here", "_law_amount"] [] := FP.bindsN fun _ _ _ _ _ _ us hl => match us, hl with | [_, _], _ => rfl
  refine F.ok scO (fun vs H Q E h => ?_) (fun cdv A outer s H vs Q E hr h => ?_)
  · obtain ⟨b, l, t, ns, ts, rfl, _⟩ := h
    rfl
  · obtain ⟨b, l, t, ns, ts, rfl, ht, h0, h1, nbt, keep, hB, k⟩ := h
    refine ⟨_, PSs.nox (pss_one (ps_ret (pe_ix ix_list (pv 1) (pe_call GP hr rfl gP FP.kp bP .nil pass0 (pa_cons (pv 0) (pa_cons (pe_callB call_len_seq (by rfl) gL PySem.boot_len (pa_cons (pv 1) pa_nil)) pa_nil))) (fun _ _ => rfl)))), ?_⟩
    refine ⟨_, rfl, _, rfl, _, rfl, t, _, rfl, .inl ht, b, l, ns, _, rfl, by omega, by omega, hB, fun r H' r0 r1 hB' hk => ?_⟩
    obtain ⟨n, rfl⟩ : ∃ n : Nat, r = (n : Int) := ⟨r.toNat, by omega⟩
    have hn : n < ts.length := by omega
    exact ⟨t, ts, _, ts[n], rfl, rfl, keep H' hk, atI_nat (List.getElem?_eq_getElem hn), k n _ H' (List.getElem?_eq_getElem hn) hB' hk⟩
theorem scB : FnScope ["_law_script", "_law_salt", "_law_cell"] ["_law_script"] (defScope sBag) := ⟨rfl, rfl, rfl, by decide +kernel, rfl, by decide +kernel, by decide +kernel⟩
theorem cut_map (ns : List Int) (lo hi : Option Int) : ∃ ms : List Int, cutV (ns.map V.int) lo hi = ms.map V.int ∧ ms.length ≤ ns.length := by
  refine ⟨(ns.drop (HT.sIx (ns.map V.int).length 0 lo)).take (HT.sIx (ns.map V.int).length (ns.map V.int).length hi - HT.sIx (ns.map V.int).length 0 lo), ?_, ?_⟩
  · unfold cutV
    rw [List.map_take, List.map_drop]
  · rw [List.length_take, List.length_drop]
    omega
theorem ok_bag (F : FnP K "_law_bag" sBag f fd) (gI : mg "int" = none) (gL : mg "list" = none) : FnOk P w K mg base CX0 1 f fd ["_law_script"] (spBag K) := by
  refine F.ok scB (fun vs H Q E h => ?_) (fun cdv A outer s H vs Q E hr h => ?_)
  · obtain ⟨a, ns, rfl, _⟩ := h
    rfl
  · obtain ⟨a, ns, rfl, hS, hlen, k⟩ := h
    refine ⟨_, PSs.nox (pss_cons (ps_set (i := 1) scB.nd rfl (Or.inl rfl) pe_int)
      (pss_cons (ps_for PassesOwn.never rfl (pi_list (pe_slice sl_list (pv 0) po_none (po_some pe_int))) (pg_name (i := 2) scB.nd rfl (Or.inl rfl))
        (pss_one (ps_set (i := 1) scB.nd rfl (Or.inl rfl) (pe_op op_mod (pe_callTy call_int1 (by rfl) gI (by decide +kernel) (pa_cons (pe_op op_add (pe_op op_add (pe_op op_mul (pv 1) pe_int) (pe_op op_mod (pe_callTy call_int1 (by rfl) gI (by decide +kernel) (pa_cons (pv 2) pa_nil)) pe_int)) pe_int) pa_nil)) pe_int))))
      (pss_one (ps_ret (pe_lst (pa_cons (pe_callTy call_list_of (by rfl) gL (by decide +kernel) (pa_cons (pe_slice sl_list (pv 0) po_none (po_some pe_int)) pa_nil)) (pa_cons pe_int (pa_cons pe_int (pa_cons (pv 1) pa_nil))))))))), ?_⟩
    obtain ⟨ms, hms, hmsl⟩ := cut_map ns none (some 63)
    refine ⟨_, rfl, _, rfl, a, _, rfl, hS, fun c hc => ?_⟩
    have hSc : SqL K (upd H c (.lst (cutV (ns.map V.int) none (some 63)))) c (ms.map V.int) := by rw [hms]; exact SqL.of upd_same
    refine ⟨c, rfl, ⟨_, hSc⟩, for_list (K := K) (a := c) (xs := ms.map V.int) (fun _ σ' H' => ∃ (z : Int) (u : Option V), σ' = [some (.ref a), some (.int z), u] ∧ 0 ≤ z ∧ z < 2147483579 ∧ H' = upd H c (.lst (cutV (ns.map V.int) none (some 63))))
      ⟨5606, none, rfl, by decide, by decide, rfl⟩ (fun i σ' H' _ ⟨_, _, _, _, _, e⟩ => by rw [e]; exact hSc) ?_ ?_⟩
    · rintro i y σ' H' hi ⟨z, u, rfl, z0, z1, rfl⟩
      obtain ⟨x, rfl⟩ : ∃ x, y = V.int x := by
        rw [List.getElem?_map] at hi
        cases e : ms[i]? with
        | none => rw [e] at hi; cases hi
        | some x => rw [e] at hi; exact ⟨x, (Option.some.inj hi).symm⟩
      refine ⟨_, rfl, _, _, rfl, rfl, .inl ⟨by omega, by omega⟩, _, rfl, .inl ⟨_, rfl, _, _, rfl, rfl, (by show (0 : Int) < 2147483399; decide), _, _, rfl, rfl, _, _, rfl, rfl, .inl ⟨_, rfl, _, _, rfl, rfl, (by show (0 : Int) < 2147483579; decide), ?_⟩⟩⟩
      exact ⟨_, _, rfl, Int.emod_nonneg _ (by decide), Int.emod_lt_of_pos _ (by decide), rfl⟩
    · rintro σ' H' ⟨z, u, rfl, z0, z1, rfl⟩
      refine ⟨_, rfl, _, rfl, a, _, rfl, ex_l (Ex.new hc) hS, fun d hd => ?_⟩
      refine ⟨d, _, rfl, .inl (SqL.of upd_same), fun l hl => ⟨_, rfl, (by show 4 ≤ sizeLine; decide), fun b hb => ?_⟩⟩
      have e1 : Ex H (upd H c (.lst (cutV (ns.map V.int) none (some 63)))) := Ex.new hc
      have e2 := e1.trans (Ex.new (o := .lst (cutV (ns.map V.int) none (some 63))) hd)
      have e3 := e2.trans (Ex.new (o := .lst (cutV (ns.map V.int) none (some 63))) hl)
      have e4 := e3.trans (Ex.new (o := .lst [.ref l, .int 0, .int 0, .int z]) hb)
      have nbl : b ≠ l := fun q => by rw [q, upd_same] at hb; cases hb
      refine k b l ms _ e4 (fresh_back e3 hb) (fresh_back e2 hl) ⟨nbl, by rw [upd_ne nbl.symm, upd_same, hms], by omega, 0, 0, z, upd_same, Int.le_refl 0, Int.le_refl 0, z0, z1⟩
end
end K52

/-! An own exception class made with keywords: __new__ lets them pass, __init__ takes them. -/
namespace OxK
open PySem PySem.W PySem.Calls PyProof.Rows PySem.HandSPX
section
variable {M : Model} {A : Around} {E : Value → Shared → Prop} {hp : Heap} {gs : Array GenState} {dr : Drawn} {tk : Nat} {os : OsState}
variable {n1 n2 : Str} {C N : Addr} {bs mr mrB : List Value} {hdc : Bool} {sl : List Str} {sub : List Value} {ab : Bool} {co : Option Bool} {dd : Option Addr} {z0 z1 z2 z3 z5 : Option Value} {B idN idI : String}
theorem kwCheck (FB : ExcBaseFacts B idN idI mrB) (hT : ∀ T : String, mr.contains (.type T) = mrB.contains (.type T)) {us : List Value} {kw : List (Str × Value)} {Q : Unit → Shared → Prop}
    (oC : hp.get? C = some (excClassObj n1 n2 C N bs mr hdc sl sub ab co dd z0 z1 z2 z3 z5 idN)) (q : Q () ⟨hp, gs, dr, tk, os⟩) :
    wpAny M A (checkBuiltinCall idN ⟨.ref C :: us, kw⟩) Q E ⟨hp, gs, dr, tk, os⟩ := by
  have inB : (Value.ref C :: mr).contains (.type B) = true := by
    rw [List.contains_cons, hT]
    rw [FB.hasB, Bool.or_true]
  have star := FB.noStar
  simp only [checkBuiltinCall, FB.newKind, FB.newSplit, FB.newRow]
  repeat (first
    | refine wpAny_loadPart_at oC ?_
    | (refine wpAny_isSubtype_exc oC ?_
       rw [inB])
    | refine wpAny_staticBase_exc oC ?_
    | refine wpAny_madeBy_exc oC ?_
    | simp only [bne_self_eq_false, Bool.false_eq_true, if_false]
    | wp_step)
  exact q
end
section
variable {prog : Program} {w : World} {A : Around} {E : Value → Shared → Prop} {R : Result → Shared → Prop} {hp : Heap} {gs : Array GenState} {dr : Drawn} {tk : Nat} {os : OsState}
variable {n1 n2 : Str} {C N : Addr} {bs mr mrB : List Value} {hdc : Bool} {sl : List Str} {sub : List Value} {ab : Bool} {co : Option Bool} {dd : Option Addr} {z0 z1 z2 z3 z5 : Option Value} {B idN idI : String}
theorem kwNew (FB : ExcBaseFacts B idN idI mrB) (hT : ∀ T : String, mr.contains (.type T) = mrB.contains (.type T)) {us : List Value} {kw : List (Str × Value)}
    (oC : hp.get? C = some (excClassObj n1 n2 C N bs mr hdc sl sub ab co dd z0 z1 z2 z3 z5 idN)) (lu : us.length ≤ sizeLine)
    (q : R (.ok (.ret (.ref (hp.objs.size + 1)))) ⟨(hp.push (W.kdv_tup us)).push (excO C hp.objs.size), gs, dr, tk, os⟩) :
    codeAny (model prog w) A (.builtin idN ⟨.ref C :: us, kw⟩) R ⟨hp, gs, dr, tk, os⟩ := by
  have fin := FB.ends
  have has : ∀ (T : String) (v : Bool), mrB.contains (.type T) = v → (Value.ref C :: mr).contains (.type T) = v := fun T v e => by
    rw [List.contains_cons, hT, e]
    rfl
  have inB := has _ _ FB.hasB
  have notA := has _ _ FB.noAttr
  have notN := has _ _ FB.noName
  refine codeAny_builtinAt FB.entry ?_
  unfold Builtin.«BaseException.__new__»
  refine PySem.wpAt_bind ?_
  show PySem.wpAt _ _ _ (stack >>= _) _ _ _
  refine PySem.wpAt_bind (PySem.wpAt_stack fun p below => PySem.wpAt_of_wpAny ?_)
  wp_walk
  refine PySem.wpAt_of_wpAny ?_
  rw [FB.owner]
  repeat (first
    | with_reducible refine wpAny_madeHere_exc FB.canon oC ?_
    | with_reducible refine wpAny_loadPart_at oC ?_
    | (with_reducible refine wpAny_isSubtype_exc oC ?_
       first | rw [inB] | rw [notA] | rw [notN])
    | wp_step)
  show R _ _
  rw [Heap.size_push]
  exact q
theorem kwTypeCall (FB : ExcBaseFacts B idN idI mrB) (hT : ∀ T : String, mr.contains (.type T) = mrB.contains (.type T)) {us : List Value} {kw : List (Str × Value)} {fI : Addr} {Q : Fin → Shared → Prop}
    (oC : hp.get? C = some (excClassObj n1 n2 C N bs mr hdc sl sub ab co dd z0 z1 z2 z3 z5 idN))
    (li : W.Looks (model prog w) hp (typeLookup (.ref C) "__init__") (some (.ref fI))) (bi : ∀ self, W.Looks (model prog w) hp (bindSpecial (.ref fI) self) (.ref fI, [self])) (lu : us.length ≤ sizeLine)
    (q : codeAny (model prog w) A (.call (.ref fI) ⟨.ref (hp.objs.size + 1) :: us, kw⟩)
      (fun r s' => match r with
        | .ok (.ret v) => v = .none ∧ Q (.done (.ret (.ref (hp.objs.size + 1)))) s'
        | .ok _ => False
        | .error x => E x s') ⟨(hp.push (W.kdv_tup us)).push (excO C hp.objs.size), gs, dr, tk, os⟩) :
    wpAny (model prog w) A (Builtin.«type.__call__» ⟨.ref C :: us, kw⟩) Q E ⟨hp, gs, dr, tk, os⟩ := by
  repeat (first
    | with_reducible refine wpAny_loadPart_at oC ?_
    | with_reducible refine wpAny_madeBy_exc oC ?_
    | wp_step)
  refine codeAny_call_builtin_code (Code.quiet_builtin _ FB.quiet) (kwCheck FB hT oC ?_)
  refine kwNew FB hT oC lu ?_
  show wpAny _ _ _ _ _ _
  have up : ∀ b o, hp.get? b = some o → ((hp.push (W.kdv_tup us)).push (excO C hp.objs.size)).get? b = some o :=
    fun b o e => Heap.get?_push_of_some _ (Heap.get?_push_of_some _ e)
  have oC2 := up _ _ oC
  have oe : ((hp.push (W.kdv_tup us)).push (excO C hp.objs.size)).get? (hp.objs.size + 1) = some (excO C hp.objs.size) := by
    heap_get
  have inC : (Value.ref C :: mr).contains (.ref C) = true := by simp
  have li2 := li.keeps up
  have bi2 := (bi (.ref (hp.objs.size + 1))).keeps up
  unfold isInstance
  repeat (first
    | with_reducible refine wpAny_loadPart_at oe ?_
    | (with_reducible refine wpAny_isSubtype_exc oC2 ?_
       rw [inC])
    | wp_step)
  show wpAny _ _ (typeLookup (.ref C) _) _ _ _
  refine li2.at ?_
  refine wpAny_holding (wpAny_bind (bi2.at ?_))
  refine wpAny_bind (wpAny_call (codeAny_mono q fun r s' y => ?_))
  rcases r with x | (v | _ | _ | _) <;> first | exact y | exact y.elim | skip
  obtain ⟨rfl, y⟩ := y
  first
    | exact wpAny_pure (wpAny_pure y)
    | (wp_walk; exact y)
theorem kwCheckT {M : Model} {us : List Value} {kw : List (Str × Value)} {Q : Unit → Shared → Prop} (oC : hp.get? C = some (excClassObj n1 n2 C N bs mr hdc sl sub ab co dd z0 z1 z2 z3 z5 idN))
    (q : Q () ⟨hp, gs, dr, tk, os⟩) : wpAny M A (checkBuiltinCall "type.__call__" ⟨.ref C :: us, kw⟩) Q E ⟨hp, gs, dr, tk, os⟩ := by
  have so := tc_sub
  have ty : (⟨hp, gs, dr, tk, os⟩ : Shared).TypeIs (.ref C) "type" := ⟨_, oC, rfl⟩
  simp only [checkBuiltinCall, tc_kind, tc_split]
  repeat (any_goals (first
    | assumption
    | with_reducible refine wpAny_loadPart_at oC ?_
    | with_reducible refine wpAny_onRaise ?_
    | with_reducible refine wpAny_map ?_
    | wp_step))
theorem kwOwn (FB : ExcBaseFacts B idN idI mrB) (hT : ∀ T : String, mr.contains (.type T) = mrB.contains (.type T)) {us : List Value} {kw : List (Str × Value)} {fI : Addr}
    (oC : hp.get? C = some (excClassObj n1 n2 C N bs mr hdc sl sub ab co dd z0 z1 z2 z3 z5 idN))
    (li : W.Looks (model prog w) hp (typeLookup (.ref C) "__init__") (some (.ref fI))) (bi : ∀ self, W.Looks (model prog w) hp (bindSpecial (.ref fI) self) (.ref fI, [self])) (lu : us.length ≤ sizeLine)
    (q : codeAny (model prog w) (A.under (.builtin "type.__call__" ⟨.ref C :: us, kw⟩)) (.call (.ref fI) ⟨.ref (hp.objs.size + 1) :: us, kw⟩) (W.InitBack (hp.objs.size + 1) R)
      ⟨(hp.push (W.kdv_tup us)).push (excO C hp.objs.size), gs, dr, tk, os⟩) :
    codeAny (model prog w) A (.call (.ref C) ⟨us, kw⟩) R ⟨hp, gs, dr, tk, os⟩ := by
  have lo := tc_lookup
  have bo := tc_bind (.ref C)
  have ty : (⟨hp, gs, dr, tk, os⟩ : Shared).TypeIs (.ref C) "type" := ⟨_, oC, rfl⟩
  refine codeAny_of_tree ?_
  show wpAny _ _ (callAny (.ref C) _) _ _ _
  repeat (any_goals (first
    | assumption
    | with_reducible refine wpAny_loadPart_at oC ?_
    | wp_step))
  refine ⟨rfl, ?_⟩
  refine codeAny_call_builtin_at (Code.quiet_builtin _ (by decide +kernel)) entry_typeCall (kwCheckT oC (kwTypeCall FB hT oC li bi lu ?_))
  refine codeAny_mono q fun r s' y => ?_
  rcases r with x | (v | _ | _ | _) <;> exact y
end
end OxK

/-! Own exceptions as values that are kept: what their class says, a store into one. -/
namespace OxK
open PySem PySem.W PySem.Calls PyProof.Rows PySem.HandSPX Builtin Builtin.ObjectAttr
/-- what the written part says of an own exception's class, whatever built-in class stands below -/
structure ExC (K : Frag) (C : Addr) : Prop where
  base : ∃ (B idN idI : String) (mrB : List Value), ExcBaseFacts B idN idI mrB ∧ StoreFacts B mrB "object.__setattr__" "object" ∧ excInitIn K C mrB idN = true ∧ excOver K C mrB = true
  hasD : hasDictIn K C = true
  sa : findIn K (.ref C) "__setattr__" = some (some (.builtin "object.__setattr__"))
  ga : findIn K (.ref C) "__getattribute__" = some (some (.builtin "BaseException.__getattribute__"))
  gg : findIn K (.ref C) "__getattr__" = some none
  exC : subIn K (.ref C) (.type "BaseException") = some true
  tyC : typeIn K (.ref C) = some (.type "type")
  kC : keepIn K (.ref C) = true
section
variable {prog : Program} {w : World} {A : Around} {E : Value → Shared → Prop} {R : Result → Shared → Prop} {hp : Heap} {gs : Array GenState} {dr : Drawn} {tk : Nat} {os : OsState} {K : Frag} {x C : Addr} {nm : Str} {t : Tok} {v : Value} {fv : Array Value}
theorem takes_none (no : findIn K (.ref C) nm = some none) : takerIn K C nm = some none := by
  unfold takerIn
  rw [no]
  rfl
theorem dict_of {cd : ClassData} (hc : clsIn K C = some cd) (T : hasDictIn K C = true) : cd.hasDict = true := by
  unfold hasDictIn at T
  rw [hc] at T
  simpa using T
/-- the first field: a dict of its own is laid -/
theorem put_first (T : ExC K C) (X : K.In hp) (ox : hp.get? x = some { cls := .ref C, data := .fields fv }) (no : findIn K (.ref C) nm = some none)
    (q : ∀ h' t' dx, (∀ b o, b ≠ x → hp.get? b = some o → h'.get? b = some o) → hp.objs.size ≤ dx → dx ≠ x → h'.get? x = some { cls := .ref C, dict := some dx, data := .fields fv } →
      h'.Ns1 dx (fun y => if y = nm then some v else none) → R (.ok (.ret .none)) ⟨h', gs, dr, t', os⟩) :
    codeAny (model prog w) A (.call (.builtin "object.__setattr__") ⟨[.ref x, .str nm t, v], []⟩) R ⟨hp, gs, dr, tk, os⟩ := by
  obtain ⟨B, idN, idI, mrB, FB, SF, hi, ho⟩ := T.base
  have I : InstAt hp x { cls := .ref C, data := .fields fv } C none := ⟨ox, rfl, rfl, trivial⟩
  refine osa_openX (s := ⟨hp, gs, dr, tk, os⟩) SF X I ho (takes_none no) fun b => ?_
  obtain ⟨cd, hc, _⟩ := any_some ho
  have hd := dict_of hc T.hasD
  have lc : W.Looks (model prog w) hp (classData C) cd := looks_clsIn X hc
  have far : x ≠ hp.objs.size := Nat.ne_of_lt (Heap.lt_size ox)
  obtain ⟨a1, a2, a3, a4, a5, hd', a6, a7, a8, a9, a10⟩ := cd
  dsimp only at hd
  subst hd
  show wpAny _ _ (storeInOwnDict (.ref x) (.ref C) (.str nm t) nm v b) _ _ _
  unfold storeInOwnDict ownDictForStores
  repeat (first
    | with_reducible refine store_in_new ?_ ?_
    | with_reducible refine wpAny_loadPart_at ox ?_
    | with_reducible refine lc.at ?_
    | wp_step)
  · exact ⟨_, #[], _, (Heap.get?_update_ne _ _ _ _ far.symm).trans (Heap.get?_push_at rfl rfl), rfl, fun e z => absurd z (by simp), fun _ => rfl⟩
  · intro h' t' hn sb
    have ox2 : (hp.push { cls := .type "dict", data := .dict #[] }).get? x = some { cls := .ref C, data := .fields fv } := Heap.get?_push_of_some _ ox
    refine q h' t' hp.objs.size (fun b' o nb z => ?_) (Nat.le_refl _) far.symm ?_ hn
    · exact (sb.2 b' (Nat.ne_of_lt (Heap.lt_size z))).trans ((Heap.get?_update_ne _ _ _ _ nb).trans (Heap.get?_push_of_some _ z))
    · exact (sb.2 x far).trans (Heap.get?_update_self _ ox2 rfl)
/-- a further field -/
theorem put_more {dx : Addr} {m0 : Str → Option Value} {nl : List Str} (T : ExC K C) (X : K.In hp) (ox : hp.get? x = some { cls := .ref C, dict := some dx, data := .fields fv }) (hn : hp.Ns1 dx m0) (wi : Within m0 nl) (few : nl.length ≤ 1000) (no : findIn K (.ref C) nm = some none)
    (q : ∀ h' t', (∀ b o, b ≠ dx → hp.get? b = some o → h'.get? b = some o) → h'.Ns1 dx (fun y => if y = nm then some v else m0 y) → R (.ok (.ret .none)) ⟨h', gs, dr, t', os⟩) :
    codeAny (model prog w) A (.call (.builtin "object.__setattr__") ⟨[.ref x, .str nm t, v], []⟩) R ⟨hp, gs, dr, tk, os⟩ := by
  obtain ⟨B, idN, idI, mrB, FB, SF, hi, ho⟩ := T.base
  obtain ⟨oD, esD, epD, gD, dD, _⟩ := hn.count wi
  have I : InstAt hp x { cls := .ref C, dict := some dx, data := .fields fv } C (some oD) := ⟨ox, rfl, rfl, gD⟩
  refine osa_openX (s := ⟨hp, gs, dr, tk, os⟩) SF X I ho (takes_none no) fun b => ?_
  obtain ⟨cd, hc, _⟩ := any_some ho
  have hd := dict_of hc T.hasD
  have lc : W.Looks (model prog w) hp (classData C) cd := looks_clsIn X hc
  obtain ⟨a1, a2, a3, a4, a5, hd', a6, a7, a8, a9, a10⟩ := cd
  dsimp only at hd
  subst hd
  show wpAny _ _ (storeInOwnDict (.ref x) (.ref C) (.str nm t) nm v b) _ _ _
  unfold storeInOwnDict ownDictForStores
  repeat (first
    | with_reducible refine PySem.OEX.store_in_old hn wi few ?_
    | with_reducible refine wpAny_loadPart_at ox ?_
    | with_reducible refine lc.at ?_
    | wp_step)
  intro h' t' hn' sb
  exact q h' t' (fun b' o nb z => (sb.2 b' nb).trans z) hn'
end
end OxK

/-! The same over the abstract heap: kept exceptions (exo, exd), their making, their fields. -/
namespace L2
open PySem PySem.Spec PyProof.Rows OxK
section
variable {X : Cx} {pins : List (Addr × Obj)} {σ : St} {H : Hp} {s : Shared} {a C dx : Addr} {f : Str} {y : V} {u : Value} {fs : List (Str × V)} {E : Value → Shared → Prop} {A : Around}
theorem xput_first {Q : Unit → Shared → Prop} (T : ExC X.K C) (I : Inv X pins σ H s) (ea : H a = some (exo a C none)) (no : PySem.W.findIn X.K (.ref C) f = some none) (ry : RelV y u)
    (q : ∀ d s', H d = none → d ≠ a → Inv X pins σ (upd (upd H d (exd d [(f, y)])) a (exo a C (some d))) s' → Q () s') :
    wpAny (model X.prog X.w) A (setAttr (.ref a) f u) Q E s := by
  obtain ⟨t1, oa⟩ := exo_at I.hok ea
  obtain ⟨hp, gs, dr, tk, os⟩ := s
  refine PySem.W.set_plain I.kIn (ox := { cls := .ref C, dict := none, data := .fields #[.ref t1, .none, .none, .none, .bool false, .none] }) (od := none) ⟨oa, rfl, rfl, trivial⟩ T.sa ?_
  refine put_first T I.kIn oa no fun h' t' d keep big nda oa' hn => ?_
  have free : H d = none := I.hok.fresh big
  have nd : ∀ {b : Addr} {o : Obj}, hp.get? b = some o → b ≠ d := fun z => Nat.ne_of_lt (Nat.lt_of_lt_of_le (Heap.lt_size z) big)
  have na : ∀ {b : Addr}, H b = none → b ≠ a := fun {b} z e => by
    rw [e, ea] at z
    cases z
  have put : ∀ {b : Addr} {o : HO}, H b = some o → exo a C none ≠ o → upd (upd H d (exd d [(f, y)])) a (exo a C (some d)) b = some o := fun {b o} z k => by
    rw [upd_ne (at_ne ea z k), upd_ne (ne_of_none z free)]
    exact z
  have Y : Un X.fs [] H (upd (upd H d (exd d [(f, y)])) a (exo a C (some d))) hp h' :=
    { keep := fun b o z n _ _ => keep b o (na n) z
      slot := fun b o z n _ _ => ⟨o.slots, keep b o (na n) z⟩
      free := fun b o z n _ => by
        rw [upd_ne (na n), upd_ne (nd z)]
        exact n
      there := fun b o z _ => by
        by_cases e : b = a
        · rw [e]
          exact ⟨_, oa'⟩
        · exact ⟨o, keep b o e z⟩
      tups := fun b xs z => put z exo_tup
      frzs := fun b o v z => put z exo_frz
      tbls := fun b ps z => ⟨#[], by
        rw [put z exo_tbl]
        simp⟩ }
  refine q d _ free nda (I.un (t' := t') Y fun b o z => ?_)
  by_cases e : b = a
  · subst e
    rw [upd_same] at z
    cases z
    exact exo_ok oa'
  · rw [upd_ne e] at z
    by_cases e2 : b = d
    · subst e2
      rw [upd_same] at z
      cases z
      exact exd_ok hn (relO_put (fs := []) ry fun _ => True.intro)
    · rw [upd_ne e2] at z
      refine (I.hok b o z).stay (fun c v hc k => keep c v ?_ k) (fun c hc => put hc exo_own) (fun c xs hc => put hc exo_tup)
      rcases hc with hc | hc
      · rw [hc]
        exact e
      · exact at_ne ea hc exo_own
theorem xput_more {Q : Unit → Shared → Prop} (T : ExC X.K C) (I : Inv X pins σ H s) (ea : H a = some (exo a C (some dx))) (ed : H dx = some (exd dx fs)) (few : fs.length ≤ 900) (no : PySem.W.findIn X.K (.ref C) f = some none) (ry : RelV y u)
    (q : ∀ s', Inv X pins σ (upd H dx (exd dx ((f, y) :: fs))) s' → Q () s') : wpAny (model X.prog X.w) A (setAttr (.ref a) f u) Q E s := by
  obtain ⟨t1, oa⟩ := exo_at I.hok ea
  obtain ⟨mA, hn, rel⟩ := exd_at I.hok ed
  have wi := within_of rel
  obtain ⟨hp, gs, dr, tk, os⟩ := s
  obtain ⟨oD, _, _, gD, _, _⟩ := hn.count wi
  refine PySem.W.set_plain I.kIn (ox := { cls := .ref C, dict := some dx, data := .fields #[.ref t1, .none, .none, .none, .bool false, .none] }) (od := some oD) ⟨oa, rfl, rfl, gD⟩ T.sa ?_
  refine put_more T I.kIn oa hn wi (by rw [List.length_map]; omega) no fun h' t' keep hn' => ?_
  have there : ∃ o, h'.get? dx = some o := by
    obtain ⟨o, _, _, z, _⟩ := hn'
    exact ⟨o, z⟩
  exact q _ (I.write (t' := t') (x := dx) (e := dx) (o := exd dx ((f, y) :: fs)) (by rw [ed]; exact True.intro) (.inl rfl) keep there (exd_ok hn' (relO_put ry rel)))
end
/-- o.f = e, o a kept exception -/
def tXst (K : PySem.W.Frag) (f : Str) (to te : TE) : TS := fun D σ H => te σ H fun y H1 => to σ H1 fun x H2 => ∃ a C : Addr, x = .ref a ∧ ExC K C ∧ PySem.W.findIn K (.ref C) f = some none ∧
  ((H2 a = some (exo a C none) ∧ ∀ d, H2 d = none → d ≠ a → D.nx σ (upd (upd H2 d (exd d [(f, y)])) a (exo a C (some d)))) ∨
    ∃ (d : Addr) (fs : List (Str × V)), H2 a = some (exo a C (some d)) ∧ H2 d = some (exd d fs) ∧ fs.length ≤ 900 ∧ D.nx σ (upd H2 d (exd d ((f, y) :: fs))))
section
variable {X : Cx} {o e : Expr} {es : List Expr} {kws : List Keyword} {to te : TE} {ta tk : TA} {f : Str} {p p' p1 p2 pos : Pos}
theorem ps_xst (ho : PE X o to) (he : PE X e te) (hs : swapsWith e (some (.Attribute o f p')) pos.line X.env = pure false := by rfl) : PS X (.Assign [.Attribute o f p'] e pos) (tXst X.K f to te) :=
  ⟨fun pins s σ H D I h => plainObj_wpAny_Assign_Attribute (thn (he.run pins s σ H _ I h) fun v s1 ⟨y, H1, I1, ry, q1⟩ =>
    thn (ho.run pins s1 σ H1 _ I1 q1) fun u s2 ⟨x, H2, I2, rx, a, C, ex, T, no, q⟩ => by
      subst ex
      cases rx
      rcases q with ⟨ea, q⟩ | ⟨d, fs, ea, ed, few, q⟩
      · exact xput_first T I2 ea no ry fun d s' free ne J => ⟨σ, _, J, q d free ne⟩
      · exact xput_more T I2 ea ed few no ry fun s' J => ⟨σ, _, J, q⟩) hs⟩
/-- o.f, o a kept exception -/
def tXg (K : PySem.W.Frag) (f : Str) (to : TE) : TE := fun σ H Q => to σ H fun x H1 => ∃ (a C d : Addr) (fs : List (Str × V)) (v : V), x = .ref a ∧ ExC K C ∧ PySem.W.findIn K (.ref C) f = some none ∧
  H1 a = some (exo a C (some d)) ∧ H1 d = some (exd d fs) ∧ fs.lookup f = some v ∧ Q v H1
theorem pe_xg (ho : PE X o to) (hb : attributeBase o f X.env (eval o X.env) = eval o X.env := by rfl) : PE X (.Attribute o f pos) (tXg X.K f to) := by
  refine ⟨fun pins s σ H Q I h => ?_⟩
  refine attr_of hb (thn (ho.run pins s σ H _ I h) fun u s1 hh => ?_)
  obtain ⟨x, H1, I1, rx, a, C, d, fs, v, ex, T, no, ea, ed, el, q⟩ := hh
  subst ex
  cases rx
  obtain ⟨t1, oa⟩ := exo_at I1.hok ea
  obtain ⟨mA, hn, rel⟩ := exd_at I1.hok ed
  obtain ⟨od, gD, lD⟩ := lookIn_ns hn
  obtain ⟨u, hu, ru⟩ := RelO.some_of (v := v) (o := mA f) (by rw [← el]; exact rel f)
  have J : PySem.W.InstAt s1.heap a _ C (some od) := ⟨oa, rfl, rfl, gD⟩
  exact HandSPX.exc_get I1.kIn J T.ga T.gg T.exC (PySem.W.findObj_own T.hasD no rfl (by rw [lD f, hu])) (handed_of ru) ⟨v, H1, I1.tok _, ru, q⟩
end
/-- how values and keywords come to the parameters: the keywords behind -/
def XB (K : PySem.W.Frag) (fd : FuncData) (ps : List Str) (n : Nat) (ks : List Str) : Prop :=
  ∀ (s : Shared) (us ws : List Value), K.In s.heap → us.length = n → ws.length = ks.length → BindsTo s fd ⟨us, ks.zip ws⟩ (ps.zip (us ++ ws))
section
variable {X : Cx} {CX : CXT} {k n : Nat} {fI C : Addr} {fd : FuncData} {ps ks : List Str} {sp : Sp} {x : Str} {p pos : Pos} {e : Expr} {es : List Expr} {kws : List Keyword} {t tk : TA}
theorem run_xnew {pins : List (Addr × Obj)} {σ : St} {H : Hp} {s : Shared} {Q : VK} {us ws : List Value} {vs zs : List V} (T : ExC X.K C) (iC : PySem.W.findIn X.K (.ref C) "__init__" = some (some (.ref fI)))
    (tI : PySem.W.typeIn X.K (.ref fI) = some (.type "function")) (F : FnOk X.prog X.w X.K X.mg X.base CX k fI fd ps sp) (hr : Room (k + 1) X.A) (hb : XB X.K fd ps (n + 1) ks) (hx : Passes CX X E0)
    (I : Inv X pins σ H s) (r : Vals vs us) (rz : Vals zs ws) (l1 : vs.length = n) (l2 : zs.length = ks.length) (l3 : n ≤ 1000)
    (h : ∀ a, H a = none → sp (.ref a :: (vs ++ zs)) (upd H a (exo a C none)) (fun v H2 => v = .non ∧ Q (.ref a) H2) E0) :
    wpAny (model X.prog X.w) X.A (call (.ref C) us (ks.zip ws)) (EP X pins σ Q) X.xe s := by
  obtain ⟨B, idN, idI, mrB, FB, SF, hi, ho⟩ := T.base
  obtain ⟨hp, gs, dr, tk', os⟩ := s
  obtain ⟨nm, N, qn, bs, bm, hdct, sn, sub, ab, col, dd, k0, k1, k2, k3, k5, oC, hT⟩ := PySem.W.excInit_of I.kIn hi
  have big : hp.objs.size ≤ hp.objs.size + 1 := Nat.le_succ _
  have free : H (hp.objs.size + 1) = none := I.hok.fresh big
  have hq := h (hp.objs.size + 1) free
  have up : ∀ b o, hp.get? b = some o → ((hp.push (PySem.W.kdv_tup us)).push (HandSPX.excO C hp.objs.size)).get? b = some o := fun b o z => Heap.get?_push_of_some _ (Heap.get?_push_of_some _ z)
  have oe : ((hp.push (PySem.W.kdv_tup us)).push (HandSPX.excO C hp.objs.size)).get? (hp.objs.size + 1) = some (HandSPX.excO C hp.objs.size) := by heap_get
  have I2 : Inv X pins σ (upd H (hp.objs.size + 1) (exo (hp.objs.size + 1) C none)) ⟨(hp.push (PySem.W.kdv_tup us)).push (HandSPX.excO C hp.objs.size), gs, dr, tk', os⟩ :=
    I.laid (t' := tk') up big (exo_ok oe)
  have r2 : Vals (V.ref (hp.objs.size + 1) :: (vs ++ zs)) ((Value.ref (hp.objs.size + 1) :: us) ++ ws) := .cons rfl (r.append rz)
  have e1 : us.length = n := r.length.symm.trans l1
  have e2 : ws.length = ks.length := rz.length.symm.trans l2
  have few : us.length ≤ sizeLine := by
    rw [e1, sizeLine_eq]
    omega
  refine wpAny_call (kwOwn FB hT oC (PySem.W.looks_findIn I.kIn iC) (fun self => PySem.W.bind_fn I.kIn self tI) few
    (codeAny_mono (F.run _ X.stack _ _ ⟨Value.ref (hp.objs.size + 1) :: us, ks.zip ws⟩ ((Value.ref (hp.objs.size + 1) :: us) ++ ws) _ _ E0 (hr.make C us (ks.zip ws)) (I2.env0.make C us (ks.zip ws))
      (hb _ (Value.ref (hp.objs.size + 1) :: us) ws I2.kIn (by rw [List.length_cons, e1]) e2) r2 hq) fun r s' hq' => ?_))
  cases r with
  | error er => exact hx pins σ _ _ er s' I2 hq'
  | ok fl =>
    cases fl with
    | ret u =>
      obtain ⟨v, H', I3, rv, ev, q3⟩ := I2.after hq'
      subst ev
      exact ⟨rv, ⟨V.ref (hp.objs.size + 1), H', I3, rfl, q3⟩⟩
    | next => exact False.elim hq'
    | brk => exact False.elim hq'
    | cont => exact False.elim hq'
/-- a kept exception is made: n values, the keywords' behind them -/
def tXnew (C : Addr) (n m : Nat) (sp : Sp) (t tk : TA) : TE := fun σ H Q => t σ H fun vs H1 => tk σ H1 fun zs H2 => vs.length = n ∧ zs.length = m ∧
  ∀ a, H2 a = none → sp (.ref a :: (vs ++ zs)) (upd H2 a (exo a C none)) (fun v H3 => v = .non ∧ Q (.ref a) H3) E0
theorem pe_x1 (T : ExC X.K C) (iC : PySem.W.findIn X.K (.ref C) "__init__" = some (some (.ref fI))) (tI : PySem.W.typeIn X.K (.ref fI) = some (.type "function")) (F : FnOk X.prog X.w X.K X.mg X.base CX k fI fd ps sp) (hr : Room (k + 1) X.A)
    (hb : XB X.K fd ps (n + 1) []) (hx : Passes CX X E0) (hg : Gl X x) (hm : X.mg x = some (.ref C)) (l3 : n ≤ 1000) (ha : PA X (e :: es) t) (hdb : (x == ("__debug__" : Str)) = false := by decide)
    (he : starEach (e :: es) X.env = (false, eval e X.env) :: starEach es X.env := by rfl) (hpl : (backTo pos (starEach es X.env)).any (·.1) = false := by rfl) :
    PE X (.Call (.Name x p) (e :: es) [] pos) (tXnew C n 0 sp t tNil) := by
  refine ⟨fun pins s σ H Q I h => wpAny_Call_Name_kw (ld_glob I hg hm ?_ hdb)⟩
  refine PySem.W.callWith_K (h₀ := X.base) I.ok.mod.kin T.kC (thn (ha.run pos pins s σ H _ I h) fun us s1 ⟨vs, H1, I1, r, l1, _, q⟩ => ⟨I1.kIn, ?_⟩) he hpl
  exact run_xnew (ks := []) (ws := []) (zs := []) T iC tI F hr hb hx I1 r .nil l1 rfl l3 q
theorem pe_x0 (T : ExC X.K C) (iC : PySem.W.findIn X.K (.ref C) "__init__" = some (some (.ref fI))) (tI : PySem.W.typeIn X.K (.ref fI) = some (.type "function")) (F : FnOk X.prog X.w X.K X.mg X.base CX k fI fd ps sp) (hr : Room (k + 1) X.A)
    (hb : XB X.K fd ps 1 []) (hx : Passes CX X E0) (hg : Gl X x) (hm : X.mg x = some (.ref C)) (hdb : (x == ("__debug__" : Str)) = false := by decide) :
    PE X (.Call (.Name x p) [] [] pos) (tXnew C 0 0 sp tNil tNil) := by
  refine ⟨fun pins s σ H Q I h => wpAny_Call_Name_kw (ld_glob I hg hm ?_ hdb)⟩
  obtain ⟨l1, l2, q⟩ := h
  exact PySem.W.callWith_K0 I.kIn T.kC (run_xnew (n := 0) (us := []) (ks := []) (ws := []) (vs := []) (zs := []) T iC tI F hr hb hx I .nil .nil l1 l2 (Nat.zero_le _) q)
theorem pe_xk (T : ExC X.K C) (iC : PySem.W.findIn X.K (.ref C) "__init__" = some (some (.ref fI))) (tI : PySem.W.typeIn X.K (.ref fI) = some (.type "function")) (F : FnOk X.prog X.w X.K X.mg X.base CX k fI fd ps sp) (hr : Room (k + 1) X.A)
    (hb : XB X.K fd ps 1 ks) (hx : Passes CX X E0) (hg : Gl X x) (hm : X.mg x = some (.ref C)) (hkw : PK X kws tk) (hall : (backToKw pos (keywordEach kws X.env)).all (·.1.isSome) = true := by rfl)
    (hks : (backToKw pos (keywordEach kws X.env)).filterMap (·.1) = ks := by rfl) (hdb : (x == ("__debug__" : Str)) = false := by decide)
    (hpl : ((backTo pos (starEach [] X.env)).any (·.1) || (backToKw pos (keywordEach kws X.env)).any (·.1.isNone)) = false := by rfl) :
    PE X (.Call (.Name x p) [] kws pos) (tXnew C 0 ks.length sp tNil tk) := by
  refine ⟨fun pins s σ H Q I h => wpAny_Call_Name_kw (ld_glob I hg hm ?_ hdb)⟩
  refine PySem.W.callWith_KW0 (h₀ := X.base) I.ok.mod.kin T.kC hall (thn (hkw.run pos pins s σ H _ I h) fun ws s1 ⟨zs, H1, I1, r, l1, l2, q⟩ => ⟨I1.kIn, ?_⟩) hpl
  rw [hks]
  exact run_xnew (n := 0) (us := []) (vs := []) T iC tI F hr hb hx I1 .nil r l1 l2 (Nat.zero_le _) q
end
/-! ### isinstance of a kept exception -/
structure IsC (K : PySem.W.Frag) (D : Addr) : Prop where
  cl : (PySem.W.clsIn K D).isSome = true
  ha : PySem.W.findIn K (.ref D) "__class__" = some (some (.builtin "object.__class__"))
  hn : PySem.W.specialIn K (.builtin "object.__class__") "__get__" = some (some (.builtin "getset_descriptor.__get__"))
  ht : PySem.W.takesIn K (.builtin "object.__class__") = some true
  hm : PySem.W.mroIn K D (.type "object") = some true
def rIsX (K : PySem.W.Frag) : List V → Hp → VK → Prop := fun xs H Q => ∃ (a D d : Addr) (fs : List (Str × V)) (c : V) (u : Value) (b : Bool), xs = [.ref a, c] ∧ ExC K D ∧ IsC K D ∧ H a = some (exo a D (some d)) ∧ H d = some (exd d fs) ∧
  ClsV c u ∧ PySem.W.kitOne K (.ref D) u = some b ∧ Q (.bl b) H
theorem call_isX {X : Cx} : CallR X (.builtin "isinstance") (rIsX X.K) := by
  intro pins s σ H xs us Q I r h
  obtain ⟨a, D, d, fs, c, u, b, rfl, T, S, ea, ed, kc, e, q⟩ := h
  obtain ⟨v1, v2, rfl, r1, r2⟩ := vals2 r
  cases r1
  have ec := kc.eq r2
  subst ec
  obtain ⟨t1, oa⟩ := exo_at I.hok ea
  obtain ⟨mA, hn, rel⟩ := exd_at I.hok ed
  obtain ⟨od, gD, lD⟩ := lookIn_ns hn
  have J : PySem.W.InstAt s.heap a _ D (some od) := ⟨oa, rfl, rfl, gD⟩
  exact PySem.W.kia_one (PySem.W.kitx_exc S.cl T.ga T.gg T.exC S.ha S.hn S.ht S.hm) I.kIn J e (fun z => nomatch z) fun tk => ⟨.bl b, H, I.tok _, rfl, q⟩
end L2

/-! copied: a flat value is itself, a tuple is laid anew -/
namespace K52
open PySem L2 Evl
/-- None, a bool, a number, a text -/
def Flat : V → Prop
  | .non => True
  | .bl _ => True
  | .int _ => True
  | .str _ => True
  | _ => False
def tyF : V → String
  | .non => "NoneType"
  | .bl _ => "bool"
  | .int _ => "int"
  | .str _ => "str"
  | _ => ""
section
variable {K : PySem.W.Frag} {H : Hp} {v : V}
theorem flat_ty (h : Flat v) : TyX K H v (.type (tyF v)) := by
  cases v <;> first | exact h.elim | skip
  · exact .base .non
  · exact .base (.bl _)
  · exact .base (.int _)
  · exact .base (.str _)
theorem flat_kit (h : Flat v) (T : String) (b : Bool) (h1 : kitB "NoneType" T = some b) (h2 : kitB "bool" T = some b) (h3 : kitB "int" T = some b) (h4 : kitB "str" T = some b) : PySem.W.kitOne K (.type (tyF v)) (.type T) = some b :=
  match v, h with
  | .non, _ => kit_ty h1
  | .bl _, _ => kit_ty h2
  | .int _, _ => kit_ty h3
  | .str _, _ => kit_ty h4
theorem flat_list (h : Flat v) : PySem.W.kitOne K (.type (tyF v)) (.type "list") = some false := flat_kit h "list" false (by decide +kernel) (by decide +kernel) (by decide +kernel) (by decide +kernel)
theorem flat_tuple (h : Flat v) : PySem.W.kitOne K (.type (tyF v)) (.type "tuple") = some false := flat_kit h "tuple" false (by decide +kernel) (by decide +kernel) (by decide +kernel) (by decide +kernel)
theorem flat_dict (h : Flat v) : PySem.W.kitOne K (.type (tyF v)) (.type "dict") = some false := flat_kit h "dict" false (by decide +kernel) (by decide +kernel) (by decide +kernel) (by decide +kernel)
theorem tup_list : PySem.W.kitOne K (.type "tuple") (.type "list") = some false := kit_ty (by decide +kernel)
theorem tup_tuple : PySem.W.kitOne K (.type "tuple") (.type "tuple") = some true := kit_ty (by decide +kernel)
theorem lst_list : PySem.W.kitOne K (.type "list") (.type "list") = some true := kit_ty (by decide +kernel)
theorem lst_tuple : PySem.W.kitOne K (.type "list") (.type "tuple") = some false := kit_ty (by decide +kernel)
end
theorem tt_yes {σ : L2.St} {H : Hp} {A B : Hp → Prop} (h : A H) : tYes σ H fun b H3 => if b = true then A H3 else B H3 := by
  show (if true = true then A H else B H)
  rw [if_pos rfl]
  exact h
/-- copied of a flat value, of a tuple of flat ones -/
def spCpF : Sp := fun vs H Q _ => ∃ v, vs = [v] ∧ Flat v ∧ Q v H
def spCpT : Sp := fun vs H Q _ => ∃ (a : Addr) (xs : List V), vs = [.ref a] ∧ H a = some (.tup xs) ∧ (∀ x ∈ xs, Flat x) ∧ xs.length ≤ 1000 ∧ ∀ (b : Addr) (H' : Hp), H b = none → Ex H H' → H' b = some (.tup xs) → Q (.ref b) H'
section
variable {P : Program} {w : World} {K : PySem.W.Frag} {mg : Str → Option Value} {base : Heap} {f : Addr} {fd : FuncData}
structure NoB (mg : Str → Option Value) : Prop where
  isi : mg "isinstance" = none
  lst : mg "list" = none
  tup : mg "tuple" = none
end
end K52

/-! The errors' __init__: a tag, and a copy of what is given -/
namespace K52
open PySem L2 Evl OxK
/-- what may be given -/
def Arg (H : Hp) (v : V) : Prop := Flat v ∨ ∃ (t : Addr) (xs : List V), v = .ref t ∧ H t = some (.tup xs) ∧ (∀ x ∈ xs, Flat x) ∧ xs.length ≤ 1000
/-- v and what copied makes of it -/
def Twin (H : Hp) (v v' : V) : Prop := (Flat v ∧ v' = v) ∨ ∃ (t t' : Addr) (xs : List V), v = .ref t ∧ v' = .ref t' ∧ H t = some (.tup xs) ∧ H t' = some (.tup xs) ∧ (∀ x ∈ xs, Flat x) ∧ xs.length ≤ 1000
theorem Arg.ex {H H' : Hp} {v : V} (h : Arg H v) (e : Ex H H') : Arg H' v := by
  rcases h with h | ⟨t, xs, r, ht, hx, hl⟩
  · exact .inl h
  · exact .inr ⟨t, xs, r, e _ _ ht, hx, hl⟩
theorem Twin.ex {H H' : Hp} {v v' : V} (h : Twin H v v') (e : Ex H H') : Twin H' v v' := by
  rcases h with h | ⟨t, t', xs, r, r', ht, ht', hx, hl⟩
  · exact .inl h
  · exact .inr ⟨t, t', xs, r, r', e _ _ ht, e _ _ ht', hx, hl⟩
/-- an exception of the class at C with these fields, kept at a -/
def Mde (H : Hp) (a C : Addr) (fs : List (Str × V)) : Prop := ∃ d, H a = some (exo a C (some d)) ∧ H d = some (exd d fs)
theorem Mde.ex {H H' : Hp} {a C : Addr} {fs : List (Str × V)} (h : Mde H a C fs) (e : Ex H H') : Mde H' a C fs := by
  obtain ⟨d, h1, h2⟩ := h
  exact ⟨d, e _ _ h1, e _ _ h2⟩
def spCp : Sp := fun vs H Q E => spCpF vs H Q E ∨ spCpT vs H Q E
def spI (C : Addr) (cn pn : Str) : Sp := fun vs H Q _ => ∃ (a : Addr) (v : V) (H0 : Hp), vs = [.ref a, v] ∧ H0 a = none ∧ H = upd H0 a (exo a C none) ∧ Arg H0 v ∧
  ∀ (v' : V) (H' : Hp), Ex H0 H' → Twin H' v v' → Mde H' a C [(pn, v'), ("tag", .str cn)] → Q .non H'
def spI0 (C : Addr) (cn : Str) : Sp := fun vs H Q _ => ∃ (a : Addr) (H0 : Hp), vs = [.ref a] ∧ H0 a = none ∧ H = upd H0 a (exo a C none) ∧
  ∀ (H' : Hp), Ex H0 H' → Mde H' a C [("tag", .str cn)] → Q .non H'
section
variable {P : Program} {w : World} {K : PySem.W.Frag} {mg : Str → Option Value} {base : Heap} {f C : Addr} {fd : FuncData}
def t_init (K : PySem.W.Frag) (cn pn : Str) : TS := tSeq (tXst K "tag" (tVar 0) (tC (.str cn))) (tXst K pn (tVar 0) (tCall spCp [] E0 (tCons (tVar 1) tNil)))
theorem fresh_put {H : Hp} {a : Addr} {o : HO} (h : H a = none) : Ex H (upd H a o) := Ex.new h
theorem pure_init (cn pn : Str) (T : ExC K C) (nT : PySem.W.findIn K (.ref C) "tag" = some none) (nP : PySem.W.findIn K (.ref C) pn = some none) {vs : List V} {H : Hp} {Q : VK} {E : XK} (h : spI C cn pn vs H Q E) :
    t_init K cn pn { nx := fun _ H' => Q .non H', rt := Q } (L2.start ["self", pn] vs) H := by
  obtain ⟨a, v, H0, rfl, ha, rfl, hv, k⟩ := h
  refine ⟨_, rfl, a, C, rfl, T, nT, .inl ⟨upd_same, fun d hd nda => ?_⟩⟩
  have nd0 : H0 d = none := by rw [upd_ne nda] at hd; exact hd
  have e1 : Ex H0 (upd (upd (upd H0 a (exo a C none)) d (exd d [("tag", .str cn)])) a (exo a C (some d))) := fun b o z => by
    have nb : b ≠ a := ne_of_none z ha
    rw [upd_ne nb, upd_ne (ne_of_none z nd0), upd_ne nb]
    exact z
  have ed1 : (upd (upd (upd H0 a (exo a C none)) d (exd d [("tag", .str cn)])) a (exo a C (some d))) d = some (exd d [("tag", .str cn)]) := by rw [upd_ne nda, upd_same]
  refine ⟨_, rfl, ?_⟩
  have fin : ∀ (v' : V) (H1 : Hp), Ex (upd (upd (upd H0 a (exo a C none)) d (exd d [("tag", .str cn)])) a (exo a C (some d))) H1 → Twin H1 v v' →
      tVar 0 (L2.start ["self", pn] [V.ref a, v]) H1 (fun x H2 => ∃ a C : Addr, x = .ref a ∧ ExC K C ∧ PySem.W.findIn K (.ref C) pn = some none ∧
        ((H2 a = some (exo a C none) ∧ ∀ d, H2 d = none → d ≠ a → Q .non (upd (upd H2 d (exd d [(pn, v')])) a (exo a C (some d)))) ∨
          ∃ (d : Addr) (fs : List (Str × V)), H2 a = some (exo a C (some d)) ∧ H2 d = some (exd d fs) ∧ fs.length ≤ 900 ∧ Q .non (upd H2 d (exd d ((pn, v') :: fs))))) := by
    intro v' H1 x1 tw
    have x0 := e1.trans x1
    have hd1 := x1 d _ ed1
    refine ⟨_, rfl, a, C, rfl, T, nP, .inr ⟨d, [("tag", .str cn)], x1 _ _ upd_same, hd1, (by show 1 ≤ 900; decide), ?_⟩⟩
    refine k v' _ (Ex.mut x0 nd0) ?_ ⟨d, by rw [upd_ne nda.symm]; exact x1 _ _ upd_same, upd_same⟩
    rcases tw with tw | ⟨t, t', xs, r, r', ht, ht', hx, hl⟩
    · exact .inl tw
    · exact .inr ⟨t, t', xs, r, r', by rw [upd_ne (at_ne hd1 ht exd_tup)]; exact ht, by rw [upd_ne (at_ne hd1 ht' exd_tup)]; exact ht', hx, hl⟩
  rcases hv with hv | ⟨t, xs, rfl, ht, hx, hl⟩
  · exact .inl ⟨v, rfl, hv, fin v _ (Ex.refl _) (.inl ⟨hv, rfl⟩)⟩
  · exact .inr ⟨t, xs, rfl, e1 _ _ ht, hx, hl, fun b H' hb ex hb' => fin (.ref b) H' ex (.inr ⟨t, b, xs, rfl, rfl, ex _ _ (e1 _ _ ht), hb', hx, hl⟩)⟩
theorem pure_init0 (cn : Str) (T : ExC K C) (nT : PySem.W.findIn K (.ref C) "tag" = some none) {vs : List V} {H : Hp} {Q : VK} {E : XK} (h : spI0 C cn vs H Q E) :
    tXst K "tag" (tVar 0) (tC (.str cn)) { nx := fun _ H' => Q .non H', rt := Q } (L2.start ["self"] vs) H := by
  obtain ⟨a, H0, rfl, ha, rfl, k⟩ := h
  refine ⟨_, rfl, a, C, rfl, T, nT, .inl ⟨upd_same, fun d hd nda => ?_⟩⟩
  have nd0 : H0 d = none := by rw [upd_ne nda] at hd; exact hd
  refine k _ (fun b o z => ?_) ⟨d, upd_same, by rw [upd_ne nda, upd_same]⟩
  have nb : b ≠ a := ne_of_none z ha
  rw [upd_ne nb, upd_ne (ne_of_none z nd0), upd_ne nb]
  exact z
end
end K52

/-! _law_same: data of any depth, alike in kind and value -/
namespace K52
open PySem L2 Evl OxK
inductive Dt where
  | f (v : V)
  | l (xs : List Dt)
  | t (xs : List Dt)
noncomputable instance decDt : DecidableEq Dt := fun _ _ => Classical.propDecidable _
/-- at the value v stands the data d, at most n deep -/
def Has (H : Hp) : Nat → V → Dt → Prop
  | 0, v, d => Flat v ∧ d = .f v
  | n + 1, v, d => (Flat v ∧ d = .f v) ∨ ∃ (a : Addr) (vs : List V) (ds : List Dt), v = .ref a ∧ ((H a = some (.lst vs) ∧ d = .l ds) ∨ (H a = some (.tup vs) ∧ d = .t ds)) ∧ vs.length = ds.length ∧ vs.length ≤ 1000 ∧
      ∀ (i : Nat) (x : V) (y : Dt), vs[i]? = some x → ds[i]? = some y → Has H n x y
theorem Has.ex {H H' : Hp} (e : Ex H H') : ∀ {n : Nat} {v : V} {d : Dt}, Has H n v d → Has H' n v d
  | 0, v, d, h => (show Flat v ∧ d = .f v from h)
  | n + 1, _, _, h => by
    rcases h with h | ⟨a, vs, ds, r, hk, hl, hb, hi⟩
    · exact .inl h
    · refine .inr ⟨a, vs, ds, r, ?_, hl, hb, fun i x y h1 h2 => Has.ex e (hi i x y h1 h2)⟩
      rcases hk with ⟨h1, h2⟩ | ⟨h1, h2⟩
      · exact .inl ⟨e _ _ h1, h2⟩
      · exact .inr ⟨e _ _ h1, h2⟩
theorem Has.up {H : Hp} : ∀ {n : Nat} {v : V} {d : Dt}, Has H n v d → Has H (n + 1) v d
  | 0, v, d, h => Or.inl (show Flat v ∧ d = .f v from h)
  | n + 1, _, _, h => by
    rcases h with h | ⟨a, vs, ds, r, hk, hl, hb, hi⟩
    · exact .inl h
    · exact .inr ⟨a, vs, ds, r, hk, hl, hb, fun i x y h1 h2 => Has.up (hi i x y h1 h2)⟩
/-! ### kinds -/
def six : List String := ["NoneType", "bool", "int", "str", "list", "tuple"]
def five : List String := ["list", "tuple", "bool", "int", "str"]
def isB (T S : String) : Bool := T == S || (T == "bool" && S == "int")
theorem kit_six : ∀ T ∈ six, ∀ S ∈ five, kitB T S = some (isB T S) := by decide +kernel
structure Kn (K : PySem.W.Frag) (H : Hp) (v : V) (T : String) : Prop where
  six : T ∈ six
  ty : ∀ H1, Ex H H1 → TyX K H1 v (.type T)
theorem Kn.ex {K : PySem.W.Frag} {H H' : Hp} {v : V} {T : String} (h : Kn K H v T) (e : Ex H H') : Kn K H' v T := ⟨h.six, fun H1 e1 => h.ty H1 (e.trans e1)⟩
theorem kn_flat {K : PySem.W.Frag} {H : Hp} {v : V} (h : Flat v) : Kn K H v (tyF v) := ⟨match v, h with
  | .non, _ => by decide
  | .bl _, _ => by show "bool" ∈ _; decide
  | .int _, _ => by show "int" ∈ _; decide
  | .str _, _ => by show "str" ∈ _; decide, fun _ _ => flat_ty h⟩
theorem kn_lst {K : PySem.W.Frag} {H : Hp} {a : Addr} {vs : List V} (h : H a = some (.lst vs)) : Kn K H (.ref a) "list" := ⟨by decide, fun _ e => .base (.lst (e _ _ h))⟩
theorem kn_tup {K : PySem.W.Frag} {H : Hp} {a : Addr} {vs : List V} (h : H a = some (.tup vs)) : Kn K H (.ref a) "tuple" := ⟨by decide, fun _ e => .base (.tup (e _ _ h))⟩
section
variable {K : PySem.W.Frag} {σ : L2.St} {H : Hp} {te : TE} {v : V} {T : String}
theorem ev_isi {S : String} (h : Ev te σ H v) (k : Kn K H v T) (hS : S ∈ five := by decide) : Ev (tCB (rIsi K) (tCons te (tCons (tC (.ty S)) tNil))) σ H (.bl (isB T S)) := fun H1 e Q q =>
  h H1 e _ fun H2 e2 => ⟨v, .ty S, _, _, isB T S, rfl, .ty S, k.ty H2 (e.trans e2), kit_ty (kit_six T k.six S hS), q H2 e2⟩
theorem ev_isN (h : Ev te σ H v) : Ev (tIsN te) σ H (.bl (decide (v = .non))) := fun H1 e Q q => h H1 e _ fun H2 e2 => q H2 e2
end
theorem ev_lenS {K : PySem.W.Frag} {σ : L2.St} {H : Hp} {te : TE} {p : Addr} {xs : List V} (h : Ev te σ H (.ref p)) (hx : SqL K H p xs ∨ SqT K H p xs) : Ev (tCB (rLenS K) (tCons te tNil)) σ H (.int (xs.length : Int)) := fun H1 e Q q =>
  h H1 e _ fun H2 e2 => ⟨p, xs, rfl, hx.elim (fun z => .inl (ex_l (e.trans e2) z)) (fun z => .inr (ex_t (e.trans e2) z)), q H2 e2⟩
/-- a comprehension over any walk -/
theorem lc_any {J : It} {n : Nat} {g : TG} {tt : TT} {te : TE} {vs : List Nat} {σ : L2.St} {H1 : Hp} {D : Addr} {Qd : Hp → Prop} (Pv : Nat → Hp → Prop) (h0 : Pv 0 (upd H1 D (.lst []))) (hgo : ∀ i H, i < n → Pv i H → J.go i H) (hst : ∀ H, Pv n H → J.stop n H)
    (hs : ∀ i H x H', i < n → Pv i H → J.yld i H x H' → g x (wipe σ vs) H' fun σ2 H2 => wipe σ2 vs = wipe σ vs ∧ tt σ2 H2 fun b H3 =>
      if b = true then te σ2 H3 fun y H4 => ∃ acc, H4 D = some (.lst acc) ∧ acc.length < sizeLine ∧ Pv (i + 1) (upd H4 D (.lst (acc ++ [y]))) else Pv (i + 1) H3) (hd : ∀ H, Pv n H → Qd H) :
    ∃ W : Nat → Nat → Hp → Prop, (∃ m, W 0 m (upd H1 D (.lst []))) ∧ ∀ i m H, W i m H →
      (J.stop i H ∧ Qd H) ∨ (J.go i H ∧ ∃ Nx : Hp → Prop, (∀ H', Nx H' → ∃ m', m' < m ∧ W (i + 1) m' H') ∧ ∀ x H', J.yld i H x H' → g x (wipe σ vs) H' fun σ2 H2 => wipe σ2 vs = wipe σ vs ∧ tt σ2 H2 fun b H3 =>
        if b = true then te σ2 H3 fun y H4 => ∃ acc, H4 D = some (.lst acc) ∧ acc.length < sizeLine ∧ Nx (upd H4 D (.lst (acc ++ [y]))) else Nx H3) := by
  refine ⟨fun i m H => i + m = n ∧ Pv i H, ⟨n, Nat.zero_add n, h0⟩, fun i m H ⟨e, p⟩ => ?_⟩
  cases m with
  | zero =>
    cases (show i = n from e)
    exact .inl ⟨hst H p, hd H p⟩
  | succ k =>
    have lt : i < n := by omega
    exact .inr ⟨hgo i H lt p, Pv (i + 1), fun H' p' => ⟨k, Nat.lt_succ_self k, by omega, p'⟩, fun x H' y => hs i H x H' lt p y⟩
/-! ### the def -/
def tIs (K : PySem.W.Frag) (i : Nat) (S : String) : TE := tCB (rIsi K) (tCons (tVar i) (tCons (tC (.ty S)) tNil))
/-- what follows where due is no list and no tuple -/
def t_tail (K : PySem.W.Frag) : TS :=
  tSeq (tIfS (tOr (tB (tIsN (tVar 1))) (tB (tIsN (tVar 0)))) (tRet (tAndV (tIsN (tVar 1)) (tIsN (tVar 0)))) tNext)
    (tSeq (tIfS (tOr (tTest (tOp rNe (tIs K 0 "bool") (tIs K 1 "bool"))) (tTest (tOp rNe (tIs K 0 "int") (tIs K 1 "int")))) (tRet (tC (.bl false))) tNext)
      (tRet (tAndV (tOp rEq (tIs K 0 "str") (tIs K 1 "str")) (tOp rEq (tVar 0) (tVar 1)))))
theorem pure_tail {K : PySem.W.Frag} {D : Ends} {H : Hp} {v w : V} {Tv : String} {r : List (Option V)} (fw : Flat w) (kv : Kn K H v Tv) (hv : (Flat v ∧ Tv = tyF v) ∨ ((Tv = "list" ∨ Tv = "tuple") ∧ ∃ a, v = .ref a))
    (k : ∀ H', Ex H H' → D.rt (.bl (decide (v = w))) H') : t_tail K D (some v :: some w :: r) H := by
  have kw := kn_flat (K := K) (H := H) fw
  refine s_if (et_or (et_B (ev_isN (ev_var rfl))) (fun _ => et_B (ev_isN (ev_var rfl)))) (fun h H1 e1 => ?_) (fun h H1 e1 => ?_)
  · refine s_ret (ev_andV (ev_isN (ev_var rfl)) (fun _ => ev_isN (ev_var rfl))) fun H2 e2 => ?_
    have e : (decide (w = V.non) && decide (v = V.non)) = decide (v = w) := by
      by_cases h1 : w = .non
      · rw [h1]
        simp
      · have h2 : v = .non := by simpa [h1] using h
        rw [h2]
        simp [h1, eq_comm]
    rw [e]
    exact k H2 (e1.trans e2)
  · have hn : ¬ w = .non ∧ ¬ v = .non := by simpa using h
    refine s_if (et_or (et_test (ev_op (ev_isi (ev_var rfl) (kv.ex e1)) (ev_isi (ev_var rfl) (kw.ex e1)) (rv_ne rfl))) (fun _ => et_test (ev_op (ev_isi (ev_var rfl) (kv.ex e1)) (ev_isi (ev_var rfl) (kw.ex e1)) (rv_ne rfl)))) (fun h' H2 e2 => ?_) (fun h' H2 e2 => ?_)
    · refine s_ret ev_c fun H3 e3 => ?_
      have e : decide (v = w) = false := by
        refine decide_eq_false fun q => ?_
        subst q
        rcases hv with ⟨_, rfl⟩ | ⟨_, a, rfl⟩
        · simp at h'
        · exact fw.elim
      have z := k H3 ((e1.trans e2).trans e3)
      rw [e] at z
      exact z
    · have hsc : decide (V.bl (isB Tv "str") = V.bl (isB (tyF w) "str")) = true → scal v w = true := fun hs => by
        have hb : isB Tv "bool" = isB (tyF w) "bool" ∧ isB Tv "int" = isB (tyF w) "int" ∧ isB Tv "str" = isB (tyF w) "str" := by
          have hs' := of_decide_eq_true hs
          simp at h' hs'
          exact ⟨h'.1, h'.2, hs'⟩
        clear h' hs
        rcases hv with ⟨fv, rfl⟩ | ⟨hT, a, rfl⟩
        · cases v <;> first | exact fv.elim | skip
          all_goals cases w <;> first | exact fw.elim | rfl | exact absurd hb (by simp [isB, tyF])
        · rcases hT with rfl | rfl
          all_goals cases w <;> first | exact fw.elim | exact absurd rfl hn.1 | exact absurd hb (by simp [isB, tyF])
      refine s_ret (ev_andV (ev_op (ev_isi (ev_var rfl) (kv.ex (e1.trans e2))) (ev_isi (ev_var rfl) (kw.ex (e1.trans e2))) (rv_eq rfl)) (fun hs => ev_op (ev_var rfl) (ev_var rfl) (rv_eq (hsc hs)))) fun H3 e3 => ?_
      have e : (decide (V.bl (isB Tv "str") = V.bl (isB (tyF w) "str")) && decide (v = w)) = decide (v = w) := by
        by_cases q : v = w
        · subst q
          rcases hv with ⟨_, rfl⟩ | ⟨_, a, rfl⟩
          · simp
          · exact fw.elim
        · rw [decide_eq_false q, Bool.and_false]
      rw [e]
      exact k H3 ((e1.trans e2).trans e3)
def spSame (n : Nat) : Sp := fun vs H Q _ => ∃ (v w : V) (d e : Dt), vs = [v, w] ∧ Has H n v d ∧ Has H n w e ∧ ∀ (b : Bool) (H' : Hp), (b = true ↔ d = e) → Ex H H' → Q (.bl b) H'
structure NoS (mg : Str → Option Value) : Prop where
  b : NoB mg
  bool : mg "bool" = none
  int : mg "int" = none
  str : mg "str" = none
  len : mg "len" = none
  all : mg "all" = none
  zip : mg "zip" = none
section
variable {P : Program} {w : World} {K : PySem.W.Frag} {mg : Str → Option Value} {base : Heap} {f : Addr} {fd : FuncData}
theorem scS : FnScope ["_law_found", "_law_due", "_law_one", "_law_other"] ["_law_found", "_law_due"] (defScope sSame) := ⟨rfl, rfl, rfl, by decide +kernel, rfl, by decide +kernel, by decide +kernel⟩
theorem ok_same0 (F : FnP K "_law_same" sSame f fd) (T : NoS mg) : FnOk P w K mg base CX0 1 f fd ["_law_found", "_law_due"] (spSame 0) := by
  refine F.ok scS (fun vs H Q E h => ?_) (fun cdv A outer s H vs Q E hr h => ?_)
  · obtain ⟨v, w, d, e, rfl, _⟩ := h
    rfl
  · obtain ⟨v, w, d, e, rfl, ⟨fv, rfl⟩, ⟨fw, rfl⟩, k⟩ := h
    refine ⟨_, PSs.nox (pss_cons (ps_if (PW.pt (pw_or (pt_val (pe_callB call_isi (by rfl) T.b.isi PyProof.Rows.boot_isinstance (pa_cons (pv 1) (pa_cons (pe_bltn (v := .ty "list") (by rfl) T.b.lst PyProof.Rows.boot_list rfl) pa_nil)))) (pw_or1 (pt_val (pe_callB call_isi (by rfl) T.b.isi PyProof.Rows.boot_isinstance (pa_cons (pv 1) (pa_cons (pe_bltn (v := .ty "tuple") (by rfl) T.b.tup PyProof.Rows.boot_tuple rfl) pa_nil))))))) pss_never pss_nil)
      (pss_cons (ps_if (PW.pt (pw_or (pt_cmp (pc_isN (pv 1))) (pw_or1 (pt_cmp (pc_isN (pv 0)))))) (pss_one (ps_ret (pe_and (pe_cmp (pc_isN (pv 1))) (pe_one (pe_cmp (pc_isN (pv 0))))))) pss_nil)
      (pss_cons (ps_if (PW.pt (pw_or (pt_cmpR op_ne (pe_callB call_isi (by rfl) T.b.isi PyProof.Rows.boot_isinstance (pa_cons (pv 0) (pa_cons (pe_bltn (v := .ty "bool") (by rfl) T.bool (by decide +kernel) rfl) pa_nil))) (pe_callB call_isi (by rfl) T.b.isi PyProof.Rows.boot_isinstance (pa_cons (pv 1) (pa_cons (pe_bltn (v := .ty "bool") (by rfl) T.bool (by decide +kernel) rfl) pa_nil))) (nomark _)) (pw_or1 (pt_cmpR op_ne (pe_callB call_isi (by rfl) T.b.isi PyProof.Rows.boot_isinstance (pa_cons (pv 0) (pa_cons (pe_bltn (v := .ty "int") (by rfl) T.int (by decide +kernel) rfl) pa_nil))) (pe_callB call_isi (by rfl) T.b.isi PyProof.Rows.boot_isinstance (pa_cons (pv 1) (pa_cons (pe_bltn (v := .ty "int") (by rfl) T.int (by decide +kernel) rfl) pa_nil))) (nomark _))))) (pss_one (ps_ret pe_bl)) pss_nil)
      (pss_one (ps_ret (pe_and (pe_cmpR op_eq (pe_callB call_isi (by rfl) T.b.isi PyProof.Rows.boot_isinstance (pa_cons (pv 0) (pa_cons (pe_bltn (v := .ty "str") (by rfl) T.str (by decide +kernel) rfl) pa_nil))) (pe_callB call_isi (by rfl) T.b.isi PyProof.Rows.boot_isinstance (pa_cons (pv 1) (pa_cons (pe_bltn (v := .ty "str") (by rfl) T.str (by decide +kernel) rfl) pa_nil))) (nomark _)) (pe_one (pe_cmpR op_eq (pv 0) (pv 1) (nomark _))))))))), ?_⟩
    have hb : (isB (tyF w) "list" || isB (tyF w) "tuple") = false := by cases w <;> first | exact fw.elim | rfl
    refine s_if (et_is (et_or (et_B (ev_isi (ev_var rfl) (kn_flat fw))) (fun _ => et_B (ev_isi (ev_var rfl) (kn_flat fw)))) hb) (fun h => nomatch h) fun _ H1 e1 => ?_
    refine pure_tail (K := K) (r := [none, none]) fw (kn_flat fv) (.inl ⟨fv, rfl⟩) fun H' e2 => k _ H' ?_ (e1.trans e2)
    rw [decide_eq_true_iff]
    exact ⟨fun e => by rw [e], fun e => Dt.f.inj e⟩
/-- what stands of the answers behind i turns -/
def Turns (H0 : Hp) (D : Addr) (ds es : List Dt) (i : Nat) (H' : Hp) : Prop := H0 D = none ∧ Ex H0 H' ∧ ∃ bs : List Bool, H' D = some (.lst (bs.map V.bl)) ∧ bs.length = i ∧
  ∀ (j : Nat) (d e : Dt) (b : Bool), ds[j]? = some d → es[j]? = some e → bs[j]? = some b → (b = true ↔ d = e)
theorem turns_all {ds es : List Dt} {bs : List Bool} (h1 : ds.length = es.length) (h2 : bs.length = ds.length) (h : ∀ (j : Nat) (d e : Dt) (b : Bool), ds[j]? = some d → es[j]? = some e → bs[j]? = some b → (b = true ↔ d = e)) :
    bs.all id = true ↔ ds = es := by
  rw [List.all_eq_true]
  constructor
  · intro q
    refine List.ext_getElem h1 fun j l1 l2 => ?_
    have hb := h j ds[j] es[j] (bs[j]'(by omega)) (List.getElem?_eq_getElem l1) (List.getElem?_eq_getElem l2) (List.getElem?_eq_getElem (by omega))
    exact hb.mp (q _ (List.getElem_mem _))
  · rintro rfl b hb
    obtain ⟨j, hj, rfl⟩ := List.mem_iff_getElem.mp hb
    exact (h j ds[j] ds[j] bs[j] (List.getElem?_eq_getElem (by omega)) (List.getElem?_eq_getElem (by omega)) (List.getElem?_eq_getElem hj)).mpr rfl
/-- one turn -/
theorem turn_one {K : PySem.W.Frag} {n i : Nat} {H0 H' : Hp} {D T : Addr} {x y : V} {dx dy : Dt} {ds es : List Dt} {σ : L2.St} (hσ : ∃ a b c d, σ = [a, b, c, d]) (p : Turns H0 D ds es i H') (hT : H' T = none) (hi : i < 1000) (hx : ds[i]? = some dx) (hy : es[i]? = some dy) (px : Has H0 n x dx) (py : Has H0 n y dy) :
    gTup K 2 (gCons (gName 2) (gCons (gName 3) gNil)) (.ref T) (wipe σ [2, 3]) (upd H' T (.tup [x, y])) fun σ2 H2 => wipe σ2 [2, 3] = wipe σ [2, 3] ∧ tYes σ2 H2 fun b H3 =>
      if b = true then tCall (spSame n) [] E0 (tCons (tVar 2) (tCons (tVar 3) tNil)) σ2 H3 fun z H4 => ∃ acc, H4 D = some (.lst acc) ∧ acc.length < sizeLine ∧ Turns H0 D ds es (i + 1) (upd H4 D (.lst (acc ++ [z]))) else Turns H0 D ds es (i + 1) H3 := by
  obtain ⟨a, b, c, d, rfl⟩ := hσ
  obtain ⟨free, e0, bs, hD, hl, hb⟩ := p
  have nDT : D ≠ T := ne_of_none hD hT
  have e1 : Ex H' (upd H' T (.tup [x, y])) := Ex.new hT
  refine ⟨T, [x, y], rfl, SqT.of upd_same, rfl, x, [y], rfl, y, [], rfl, rfl, rfl, ?_⟩
  refine tt_yes ?_
  refine ⟨_, rfl, _, rfl, x, y, dx, dy, rfl, px.ex (e0.trans e1), py.ex (e0.trans e1), fun r H4 hr e2 => ?_⟩
  refine ⟨bs.map V.bl, e2 _ _ (by rw [upd_ne nDT]; exact hD), small1000 (by rw [List.length_map]; omega), free, Ex.mut ((e0.trans e1).trans e2) free, bs ++ [r], by rw [upd_same, List.map_append]; rfl, by rw [List.length_append, hl]; rfl, ?_⟩
  intro j d' e' b' h1 h2 h3
  by_cases hj : j < i
  · rw [List.getElem?_append_left (by omega)] at h3
    exact hb j d' e' b' h1 h2 h3
  · have hj2 : j = i := by
      have := (List.getElem?_eq_some_iff.mp h3).1
      rw [List.length_append, hl] at this
      simp only [List.length_singleton] at this
      omega
    subst hj2
    rw [List.getElem?_append_right (by omega), hl] at h3
    simp at h3
    subst h3
    rw [hx] at h1
    rw [hy] at h2
    cases h1
    cases h2
    exact hr
theorem ok_same (F : FnP K "_law_same" sSame f fd) (T : NoS mg) (gS : mg "_law_same" = some (.ref f)) : ∀ n, FnOk P w K mg base CX0 (n + 1) f fd ["_law_found", "_law_due"] (spSame n)
  | 0 => ok_same0 F T
  | n + 1 => by
    have G : FnOk P w K mg base CX0 (n + 1) f fd ["_law_found", "_law_due"] (spSame n) := ok_same F T gS n
    have bS : Binds K fd ["_law_found", "_law_due"] [] := F.bindsN fun _ _ _ _ _ _ us hl => match us, hl with | [_, _], _ => rfl
    refine F.ok scS (fun vs H Q E h => ?_) (fun cdv A outer s H vs Q E hr h => ?_)
    · obtain ⟨v, w, d, e, rfl, _⟩ := h
      rfl
    · obtain ⟨v, w, d, e, rfl, hv, hw, k⟩ := h
      refine ⟨_, PSs.nox (pss_cons (ps_if (PW.pt (pw_or (pt_val (pe_callB call_isi (by rfl) T.b.isi PyProof.Rows.boot_isinstance (pa_cons (pv 1) (pa_cons (pe_bltn (v := .ty "list") (by rfl) T.b.lst PyProof.Rows.boot_list rfl) pa_nil)))) (pw_or1 (pt_val (pe_callB call_isi (by rfl) T.b.isi PyProof.Rows.boot_isinstance (pa_cons (pv 1) (pa_cons (pe_bltn (v := .ty "tuple") (by rfl) T.b.tup PyProof.Rows.boot_tuple rfl) pa_nil))))))) (pss_cons (ps_if (PW.pt (pw_or (pt_cmpR op_ne (pe_callB call_isi (by rfl) T.b.isi PyProof.Rows.boot_isinstance (pa_cons (pv 0) (pa_cons (pe_bltn (v := .ty "list") (by rfl) T.b.lst PyProof.Rows.boot_list rfl) pa_nil))) (pe_callB call_isi (by rfl) T.b.isi PyProof.Rows.boot_isinstance (pa_cons (pv 1) (pa_cons (pe_bltn (v := .ty "list") (by rfl) T.b.lst PyProof.Rows.boot_list rfl) pa_nil))) (nomark _)) (pw_or1 (pt_cmpR op_ne (pe_callB call_isi (by rfl) T.b.isi PyProof.Rows.boot_isinstance (pa_cons (pv 0) (pa_cons (pe_bltn (v := .ty "tuple") (by rfl) T.b.tup PyProof.Rows.boot_tuple rfl) pa_nil))) (pe_callB call_isi (by rfl) T.b.isi PyProof.Rows.boot_isinstance (pa_cons (pv 1) (pa_cons (pe_bltn (v := .ty "tuple") (by rfl) T.b.tup PyProof.Rows.boot_tuple rfl) pa_nil))) (nomark _))))) (pss_one (ps_ret pe_bl)) pss_nil)
        (pss_one (ps_ret (pe_and (pe_cmpR op_eq (pe_callB call_len_seq (by rfl) T.len PySem.boot_len (pa_cons (pv 0) pa_nil)) (pe_callB call_len_seq (by rfl) T.len PySem.boot_len (pa_cons (pv 1) pa_nil)) (nomark _)) (pe_one (pe_callB (cr_all rfl) (by rfl) T.all PyProof.Rows.boot_all (pa_cons (pe_lc (own := [("_law_one", 2), ("_law_other", 3)]) (g := gTup K 2 (gCons (gName 2) (gCons (gName 3) gNil))) (by rfl) scS.nd (RZ.pi_zipA (by rfl) T.zip (pa_cons (pv 0) (pa_cons (pv 1) pa_nil))) (blkOk_by (own := [("_law_one", 2), ("_law_other", 3)]) (N := ["_law_found", "_law_due", "_law_one", "_law_other"]) (sc := defScope sSame) (by decide +kernel))
          (fun _ _ _ _ _ => pg_tup (by rfl) (pgs_cons (pg_name (i := 2) scS.nd rfl (Or.inl rfl)) (pgs_cons (pg_name (i := 3) scS.nd rfl (Or.inl rfl)) pgs_nil))) (fun _ _ _ _ _ => pts_nil)
          (fun _ _ _ _ _ => pe_call G (hr.mono (by omega)) rfl gS F.kp bS .nil pass0 (pa_cons (pv 2) (pa_cons (pv 3) pa_nil)))) pa_nil))))))) pss_nil)
      (pss_cons (ps_if (PW.pt (pw_or (pt_cmp (pc_isN (pv 1))) (pw_or1 (pt_cmp (pc_isN (pv 0)))))) (pss_one (ps_ret (pe_and (pe_cmp (pc_isN (pv 1))) (pe_one (pe_cmp (pc_isN (pv 0))))))) pss_nil)
      (pss_cons (ps_if (PW.pt (pw_or (pt_cmpR op_ne (pe_callB call_isi (by rfl) T.b.isi PyProof.Rows.boot_isinstance (pa_cons (pv 0) (pa_cons (pe_bltn (v := .ty "bool") (by rfl) T.bool (by decide +kernel) rfl) pa_nil))) (pe_callB call_isi (by rfl) T.b.isi PyProof.Rows.boot_isinstance (pa_cons (pv 1) (pa_cons (pe_bltn (v := .ty "bool") (by rfl) T.bool (by decide +kernel) rfl) pa_nil))) (nomark _)) (pw_or1 (pt_cmpR op_ne (pe_callB call_isi (by rfl) T.b.isi PyProof.Rows.boot_isinstance (pa_cons (pv 0) (pa_cons (pe_bltn (v := .ty "int") (by rfl) T.int (by decide +kernel) rfl) pa_nil))) (pe_callB call_isi (by rfl) T.b.isi PyProof.Rows.boot_isinstance (pa_cons (pv 1) (pa_cons (pe_bltn (v := .ty "int") (by rfl) T.int (by decide +kernel) rfl) pa_nil))) (nomark _))))) (pss_one (ps_ret pe_bl)) pss_nil)
      (pss_one (ps_ret (pe_and (pe_cmpR op_eq (pe_callB call_isi (by rfl) T.b.isi PyProof.Rows.boot_isinstance (pa_cons (pv 0) (pa_cons (pe_bltn (v := .ty "str") (by rfl) T.str (by decide +kernel) rfl) pa_nil))) (pe_callB call_isi (by rfl) T.b.isi PyProof.Rows.boot_isinstance (pa_cons (pv 1) (pa_cons (pe_bltn (v := .ty "str") (by rfl) T.str (by decide +kernel) rfl) pa_nil))) (nomark _)) (pe_one (pe_cmpR op_eq (pv 0) (pv 1) (nomark _))))))))), ?_⟩
      rcases hw with ⟨fw, rfl⟩ | ⟨b, ws, es, rfl, hwk, hwl, hwb, hwi⟩
      · have hb : (isB (tyF w) "list" || isB (tyF w) "tuple") = false := by cases w <;> first | exact fw.elim | rfl
        refine s_if (et_is (et_or (et_B (ev_isi (ev_var rfl) (kn_flat fw))) (fun _ => et_B (ev_isi (ev_var rfl) (kn_flat fw)))) hb) (fun h => nomatch h) fun _ H1 e1 => ?_
        rcases hv with ⟨fv, rfl⟩ | ⟨a, vs, ds, rfl, hvk, hvl, hvb, hvi⟩
        · refine pure_tail (K := K) (r := [none, none]) fw (kn_flat fv) (.inl ⟨fv, rfl⟩) fun H' e2 => k _ H' ?_ (e1.trans e2)
          rw [decide_eq_true_iff]
          exact ⟨fun e => by rw [e], fun e => Dt.f.inj e⟩
        · have hne : ¬ V.ref a = w := fun e => by
            rw [← e] at fw
            exact fw.elim
          rcases hvk with ⟨ha, rfl⟩ | ⟨ha, rfl⟩
          · refine pure_tail (K := K) (r := [none, none]) fw ((kn_lst ha).ex e1) (.inr ⟨.inl rfl, a, rfl⟩) fun H' e2 => k _ H' ?_ (e1.trans e2)
            rw [decide_eq_true_iff]
            exact ⟨fun e => absurd e hne, fun e => nomatch e⟩
          · refine pure_tail (K := K) (r := [none, none]) fw ((kn_tup ha).ex e1) (.inr ⟨.inr rfl, a, rfl⟩) fun H' e2 => k _ H' ?_ (e1.trans e2)
            rw [decide_eq_true_iff]
            exact ⟨fun e => absurd e hne, fun e => nomatch e⟩
      · rcases hwk with ⟨hb, rfl⟩ | ⟨hb, rfl⟩
        · refine s_if (et_is (et_or (et_B (ev_isi (ev_var rfl) (kn_lst hb))) (fun _ => et_B (ev_isi (ev_var rfl) (kn_lst hb)))) (by decide : _ = true)) (fun _ H1 e1 => ?_) (fun h => nomatch h)
          rcases hv with ⟨fv, rfl⟩ | ⟨a, vs, ds, rfl, ⟨ha, rfl⟩ | ⟨ha, rfl⟩, hvl, hvb, hvi⟩
          · have z : ((!decide (V.bl (isB (tyF v) "list") = V.bl (isB "list" "list"))) || !decide (V.bl (isB (tyF v) "tuple") = V.bl (isB "list" "tuple"))) = true := by cases v <;> first | exact fv.elim | rfl
            refine s_if (et_is (et_or (et_test (ev_op (ev_isi (ev_var rfl) ((kn_flat (K := K) (H := H) fv).ex e1)) (ev_isi (ev_var rfl) ((kn_lst (K := K) hb).ex e1)) (rv_ne rfl))) (fun _ => et_test (ev_op (ev_isi (ev_var rfl) ((kn_flat (K := K) (H := H) fv).ex e1)) (ev_isi (ev_var rfl) ((kn_lst (K := K) hb).ex e1)) (rv_ne rfl)))) z) (fun _ H2 e2 => ?_) (fun h => nomatch h)
            exact s_ret ev_c fun H3 e3 => k false H3 ⟨fun h => (nomatch h), fun h => (nomatch h)⟩ ((e1.trans e2).trans e3)
          · skip
            refine s_if (et_is (et_or (et_test (ev_op (ev_isi (ev_var rfl) ((kn_lst (K := K) ha).ex e1)) (ev_isi (ev_var rfl) ((kn_lst (K := K) hb).ex e1)) (rv_ne rfl))) (fun _ => et_test (ev_op (ev_isi (ev_var rfl) ((kn_lst (K := K) ha).ex e1)) (ev_isi (ev_var rfl) ((kn_lst (K := K) hb).ex e1)) (rv_ne rfl)))) (by decide : _ = false)) (fun h => nomatch h) (fun _ H2 e2 => ?_)
            have e12 := e1.trans e2
            refine s_ret (ev_andV (ev_op (ev_lenS (ev_var rfl) (.inl (SqL.of (e12 _ _ ha)))) (ev_lenS (ev_var rfl) (.inl (SqL.of (e12 _ _ hb)))) (rv_eq rfl)) (b := decide (ds = es)) (fun hlen => ?_)) fun H3 e3 => ?_
            · have hl : vs.length = ws.length := Int.ofNat.inj (V.int.inj (of_decide_eq_true hlen))
              have hl2 : ds.length = es.length := by omega
              intro H4 e4 Q' q'
              have e14 := e12.trans e4
              refine ⟨_, rfl, _, rfl, a, b, vs, ws, rfl, .inl ⟨SqL.of (e14 _ _ ha), SqL.of (e14 _ _ hb), fun D hD => ?_⟩⟩
              refine lc_any (J := Itz K a b) (n := vs.length) (Turns H4 D ds es) ⟨hD, Ex.new hD, [], upd_same, rfl, fun j d' e' b' _ _ h3 => by simp at h3⟩ (fun i H5 hi p => ?_) (fun H5 p => ?_) (fun i H5 x H6 hi p y => ?_) (fun H5 p => ?_)
              · have e5 := e14.trans p.2.1
                exact ⟨vs, ws, vs[i], ws[i]'(by omega), SqL.of (e5 _ _ ha), SqL.of (e5 _ _ hb), List.getElem?_eq_getElem hi, List.getElem?_eq_getElem (by omega)⟩
              · have e5 := e14.trans p.2.1
                exact ⟨vs, ws, SqL.of (e5 _ _ ha), SqL.of (e5 _ _ hb), .inl (Nat.le_refl _)⟩
              · obtain ⟨T, x', y', rfl, hT, rfl, f1, f2⟩ := y
                have e5 := e14.trans p.2.1
                have hx := f1 vs (SqL.of (e5 _ _ ha))
                have hy := f2 ws (SqL.of (e5 _ _ hb))
                have hdx : ds[i]? = some (ds[i]'(by omega)) := List.getElem?_eq_getElem _
                have hdy : es[i]? = some (es[i]'(by omega)) := List.getElem?_eq_getElem _
                exact turn_one ⟨_, _, _, _, rfl⟩ p hT (by omega) hdx hdy ((hvi i _ _ hx hdx).ex e14) ((hwi i _ _ hy hdy).ex e14)
              · obtain ⟨_, e5, bs, hD5, hl5, hb5⟩ := p
                refine ⟨D, bs, rfl, SqL.of hD5, ?_⟩
                have z : bs.all id = decide (ds = es) := by
                  have := turns_all hl2 (by omega) hb5
                  by_cases q : ds = es
                  · rw [decide_eq_true q, this.mpr q]
                  · rw [decide_eq_false q]
                    exact Bool.eq_false_iff.mpr fun h => q (this.mp h)
                rw [z]
                exact q' H5 e5
            · refine k _ H3 ?_ (e12.trans e3)
              rw [Bool.and_eq_true, decide_eq_true_iff, decide_eq_true_iff]
              refine ⟨fun h => by rw [h.2], fun h => ?_⟩
              have h2 := Dt.l.inj h
              subst h2
              exact ⟨by rw [hvl, hwl], rfl⟩
          · skip
            refine s_if (et_is (et_or (et_test (ev_op (ev_isi (ev_var rfl) ((kn_tup (K := K) ha).ex e1)) (ev_isi (ev_var rfl) ((kn_lst (K := K) hb).ex e1)) (rv_ne rfl))) (fun _ => et_test (ev_op (ev_isi (ev_var rfl) ((kn_tup (K := K) ha).ex e1)) (ev_isi (ev_var rfl) ((kn_lst (K := K) hb).ex e1)) (rv_ne rfl)))) (by decide : _ = true)) (fun _ H2 e2 => ?_) (fun h => nomatch h)
            exact s_ret ev_c fun H3 e3 => k false H3 ⟨fun h => (nomatch h), fun h => (nomatch h)⟩ ((e1.trans e2).trans e3)
        · refine s_if (et_is (et_or (et_B (ev_isi (ev_var rfl) (kn_tup hb))) (fun _ => et_B (ev_isi (ev_var rfl) (kn_tup hb)))) (by decide : _ = true)) (fun _ H1 e1 => ?_) (fun h => nomatch h)
          rcases hv with ⟨fv, rfl⟩ | ⟨a, vs, ds, rfl, ⟨ha, rfl⟩ | ⟨ha, rfl⟩, hvl, hvb, hvi⟩
          · have z : ((!decide (V.bl (isB (tyF v) "list") = V.bl (isB "tuple" "list"))) || !decide (V.bl (isB (tyF v) "tuple") = V.bl (isB "tuple" "tuple"))) = true := by cases v <;> first | exact fv.elim | rfl
            refine s_if (et_is (et_or (et_test (ev_op (ev_isi (ev_var rfl) ((kn_flat (K := K) (H := H) fv).ex e1)) (ev_isi (ev_var rfl) ((kn_tup (K := K) hb).ex e1)) (rv_ne rfl))) (fun _ => et_test (ev_op (ev_isi (ev_var rfl) ((kn_flat (K := K) (H := H) fv).ex e1)) (ev_isi (ev_var rfl) ((kn_tup (K := K) hb).ex e1)) (rv_ne rfl)))) z) (fun _ H2 e2 => ?_) (fun h => nomatch h)
            exact s_ret ev_c fun H3 e3 => k false H3 ⟨fun h => (nomatch h), fun h => (nomatch h)⟩ ((e1.trans e2).trans e3)
          · skip
            refine s_if (et_is (et_or (et_test (ev_op (ev_isi (ev_var rfl) ((kn_lst (K := K) ha).ex e1)) (ev_isi (ev_var rfl) ((kn_tup (K := K) hb).ex e1)) (rv_ne rfl))) (fun _ => et_test (ev_op (ev_isi (ev_var rfl) ((kn_lst (K := K) ha).ex e1)) (ev_isi (ev_var rfl) ((kn_tup (K := K) hb).ex e1)) (rv_ne rfl)))) (by decide : _ = true)) (fun _ H2 e2 => ?_) (fun h => nomatch h)
            exact s_ret ev_c fun H3 e3 => k false H3 ⟨fun h => (nomatch h), fun h => (nomatch h)⟩ ((e1.trans e2).trans e3)
          · skip
            refine s_if (et_is (et_or (et_test (ev_op (ev_isi (ev_var rfl) ((kn_tup (K := K) ha).ex e1)) (ev_isi (ev_var rfl) ((kn_tup (K := K) hb).ex e1)) (rv_ne rfl))) (fun _ => et_test (ev_op (ev_isi (ev_var rfl) ((kn_tup (K := K) ha).ex e1)) (ev_isi (ev_var rfl) ((kn_tup (K := K) hb).ex e1)) (rv_ne rfl)))) (by decide : _ = false)) (fun h => nomatch h) (fun _ H2 e2 => ?_)
            have e12 := e1.trans e2
            refine s_ret (ev_andV (ev_op (ev_lenS (ev_var rfl) (.inr (SqT.of (e12 _ _ ha)))) (ev_lenS (ev_var rfl) (.inr (SqT.of (e12 _ _ hb)))) (rv_eq rfl)) (b := decide (ds = es)) (fun hlen => ?_)) fun H3 e3 => ?_
            · have hl : vs.length = ws.length := Int.ofNat.inj (V.int.inj (of_decide_eq_true hlen))
              have hl2 : ds.length = es.length := by omega
              intro H4 e4 Q' q'
              have e14 := e12.trans e4
              refine ⟨_, rfl, _, rfl, a, b, vs, ws, rfl, .inr ⟨SqT.of (e14 _ _ ha), SqT.of (e14 _ _ hb), fun D hD => ?_⟩⟩
              refine lc_any (J := RZ.ItzT K a b) (n := vs.length) (Turns H4 D ds es) ⟨hD, Ex.new hD, [], upd_same, rfl, fun j d' e' b' _ _ h3 => by simp at h3⟩ (fun i H5 hi p => ?_) (fun H5 p => ?_) (fun i H5 x H6 hi p y => ?_) (fun H5 p => ?_)
              · have e5 := e14.trans p.2.1
                exact ⟨vs, ws, vs[i], ws[i]'(by omega), SqT.of (e5 _ _ ha), SqT.of (e5 _ _ hb), List.getElem?_eq_getElem hi, List.getElem?_eq_getElem (by omega)⟩
              · have e5 := e14.trans p.2.1
                exact ⟨vs, ws, SqT.of (e5 _ _ ha), SqT.of (e5 _ _ hb), .inl (Nat.le_refl _)⟩
              · obtain ⟨T, x', y', rfl, hT, rfl, f1, f2⟩ := y
                have e5 := e14.trans p.2.1
                have hx := f1 vs (SqT.of (e5 _ _ ha))
                have hy := f2 ws (SqT.of (e5 _ _ hb))
                have hdx : ds[i]? = some (ds[i]'(by omega)) := List.getElem?_eq_getElem _
                have hdy : es[i]? = some (es[i]'(by omega)) := List.getElem?_eq_getElem _
                exact turn_one ⟨_, _, _, _, rfl⟩ p hT (by omega) hdx hdy ((hvi i _ _ hx hdx).ex e14) ((hwi i _ _ hy hdy).ex e14)
              · obtain ⟨_, e5, bs, hD5, hl5, hb5⟩ := p
                refine ⟨D, bs, rfl, SqL.of hD5, ?_⟩
                have z : bs.all id = decide (ds = es) := by
                  have := turns_all hl2 (by omega) hb5
                  by_cases q : ds = es
                  · rw [decide_eq_true q, this.mpr q]
                  · rw [decide_eq_false q]
                    exact Bool.eq_false_iff.mpr fun h => q (this.mp h)
                rw [z]
                exact q' H5 e5
            · refine k _ H3 ?_ (e12.trans e3)
              rw [Bool.and_eq_true, decide_eq_true_iff, decide_eq_true_iff]
              refine ⟨fun h => by rw [h.2], fun h => ?_⟩
              have h2 := Dt.t.inj h
              subst h2
              exact ⟨by rw [hvl, hwl], rfl⟩
end
end K52

/-! zip over two things that never change, texts and tuples mixed -/
namespace L2
open PySem PySem.Spec PyProof.Rows
/-- one side of a zip: its iterator at i; n items; itm k y: the k-th is y -/
structure Side (P : Program) (w : World) (K : PySem.W.Frag) (i : Addr) (fp : List Addr) (n : Nat) (Pv : Nat → Value → Prop) (It So : Nat → Heap → Prop) (hold : Hp → Prop) (itm : Nat → V → Prop) : Prop where
  dr : ∀ A : Around, A.handled = none → Draws P w A i fp n Pv (fun k h => It k h ∧ So k h)
  cell : ∀ k h, It k h → ∃ o, h.get? i = some o ∧ ∀ v, o.data ≠ .cell v
  at_ : ∀ k (h h' : Heap), It k h → (∀ o, h.get? i = some o → h'.get? i = some o) → It k h'
  so : ∀ (X : Cx) (pins : List (Addr × Obj)) (σ : St) (H : Hp) (s : Shared) (k : Nat), X.K = K → Inv X pins σ H s → hold H → So k s.heap
  rel : ∀ (X : Cx) (pins : List (Addr × Obj)) (σ : St) (H : Hp) (s : Shared) (k : Nat) (x : Value), X.K = K → Inv X pins σ H s → hold H → Pv k x → ∃ y, itm k y ∧ RelV y x
def ItzG (n1 n2 : Nat) (h1 h2 : Hp → Prop) (m1 m2 : Nat → V → Prop) : It :=
  ⟨fun i H => i < n1 ∧ i < n2 ∧ h1 H ∧ h2 H, fun i H v H' => ∃ T x y, v = .ref T ∧ H T = none ∧ H' = upd H T (.tup [x, y]) ∧ m1 i x ∧ m2 i y, fun i H => i ≤ n1 ∧ i ≤ n2 ∧ (i = n1 ∨ i = n2) ∧ h1 H ∧ h2 H⟩
section
variable {P : Program} {w : World} {K : PySem.W.Frag} {z TI TO i1 i2 : Addr} {fp1 fp2 : List Addr} {n1 n2 : Nat} {P1 P2 : Nat → Value → Prop} {I1 S1 I2 S2 : Nat → Heap → Prop} {h1 h2 : Hp → Prop} {m1 m2 : Nat → V → Prop}
theorem turn_zipG {elts : List Expr} {kk : Nat} {tpos : Pos} (D : ZipSep2 z TI TO i1 i2 fp1 fp2) (A1 : Side P w K i1 fp1 n1 P1 I1 S1 h1 m1) (A2 : Side P w K i2 fp2 n2 P2 I2 S2 h2 m2) :
    Turn P w K (.Tuple elts kk tpos) (ItzG n1 n2 h1 h2 m1 m2) [z, TI, TO, i1, i2] z
      (fun i h => IsZip h z TI TO .none ∧ IsTupOf2 h TI (.ref i1) (.ref i2) ∧ (∃ x y, IsTupOf2 h TO x y) ∧ I1 i h ∧ I2 i h) where
  mem := List.mem_cons_self
  obj := fun i h ⟨a1, a2, ⟨x, y, a3⟩, a4, a5⟩ c hc => by
    simp only [List.mem_cons, List.not_mem_nil, or_false] at hc
    rcases hc with rfl | rfl | rfl | rfl | rfl
    · exact ⟨_, a1, fun _ q => nomatch q⟩
    · exact ⟨_, a2, fun _ q => nomatch q⟩
    · exact ⟨_, a3, fun _ q => nomatch q⟩
    · exact A1.cell i h a4
    · exact A2.cell i h a5
  keep := fun i h h' ⟨a1, a2, ⟨x, y, a3⟩, a4, a5⟩ k =>
    ⟨k z (by simp) _ a1, k TI (by simp) _ a2, ⟨x, y, k TO (by simp) _ a3⟩, A1.at_ i h h' a4 fun o => k i1 (by simp) o, A2.at_ i h h' a5 fun o => k i2 (by simp) o⟩
  item := by
    intro X hP hw hK hc i pins s σ H E I hf ⟨a1, a2, ⟨x0, y0, a3⟩, a4, a5⟩ ⟨l1, l2, g1, g2⟩
    subst hP hw
    have zl : z < s.heap.objs.size := Heap.lt_size a1
    refine wpAny_pyNext_zipD2_item D (A1.dr _ (I.ok.hd hc)) (A2.dr _ (I.ok.hd hc)) a1 a2 a3 ⟨a4, A1.so X pins σ H s i hK I g1⟩ ⟨a5, A2.so X pins σ H s i hK I g2⟩ l1 l2 fun u1 u2 h' tk p1 p2 b1 b2 b3 b4 b5 b6 kp => ?_
    obtain ⟨x, mx, rx⟩ := A1.rel X pins σ H s i u1 hK I g1 p1
    obtain ⟨y, my, ry⟩ := A2.rel X pins σ H s i u2 hK I g2 p2
    refine ⟨_, rfl, wpAny_letOwnedTupleGo_zip (s := { s with heap := h', toks := tk }) b1 fun h'' b1' sb => ?_⟩
    have tup : h''.get? s.heap.objs.size = some { cls := .type "tuple", data := .seq #[u1, u2] } := (sb.2 _ (Nat.ne_of_gt zl)).trans b5
    have new : ObjOk X.prog X.w (upd H s.heap.objs.size (.tup [x, y])) h'' s.heap.objs.size (.tup [x, y]) :=
      ⟨by show 2 ≤ sizeLine; decide, [u1, u2], .cons rx (.cons ry .nil), ⟨_, tup, rfl, _, rfl⟩⟩
    have J : Inv X pins σ (upd H s.heap.objs.size (.tup [x, y])) { s with heap := h'', toks := tk } :=
      I.turnedNew (t' := tk) (ch := [z, TI, TO, i1, i2]) (fun c o nb q => by
        simp only [List.mem_cons, List.not_mem_nil, or_false, not_or] at nb
        exact (sb.2 c nb.1).trans (kp c o nb.1 nb.2.2.1 nb.2.2.2.1 nb.2.2.2.2 q)) hf (Nat.le_refl _) new
    have i1z : i1 ≠ z := fun q => D.zi1 q.symm
    have i2z : i2 ≠ z := fun q => D.zi2 q.symm
    refine ⟨.ref s.heap.objs.size, _, J, rfl, ⟨_, x, y, rfl, I.hok.fresh (Nat.le_refl _), rfl, mx, my⟩, ⟨b1', (sb.2 _ D.TIz).trans (kp TI _ D.TIz D.TITO D.TIi1 D.TIi2 a2), ⟨u1, u2, (sb.2 _ D.TOz).trans b2⟩, A1.at_ _ _ _ b3.1 fun o q => (sb.2 _ i1z).trans q, A2.at_ _ _ _ b4.1 fun o q => (sb.2 _ i2z).trans q⟩, fun c hcm => ?_⟩
    have lt : c < s.heap.objs.size := by
      simp only [List.mem_cons, List.not_mem_nil, or_false] at hcm
      rcases hcm with rfl | rfl | rfl | rfl | rfl
      · exact zl
      · exact Heap.lt_size a2
      · exact Heap.lt_size a3
      · obtain ⟨_, q, _⟩ := A1.cell i _ a4
        exact Heap.lt_size q
      · obtain ⟨_, q, _⟩ := A2.cell i _ a5
        exact Heap.lt_size q
    rw [upd_ne (Nat.ne_of_lt lt)]
    exact (hf c hcm).1
  done := by
    intro X hP hw hK hc i pins s σ H E I hf ⟨a1, a2, ⟨x0, y0, a3⟩, a4, a5⟩ ⟨l1, l2, en, g1, g2⟩
    subst hP hw
    exact wpAny_pyNext_zipD2_end D (A1.dr _ (I.ok.hd hc)) (A2.dr _ (I.ok.hd hc)) a1 a2 a3 ⟨a4, A1.so X pins σ H s i hK I g1⟩ ⟨a5, A2.so X pins σ H s i hK I g2⟩ l1 l2 en fun h' tk kp =>
      ⟨rfl, I.turnedL (t' := tk) (ch := [z, TI, TO, i1, i2]) (fun c o nb q => by
        simp only [List.mem_cons, List.not_mem_nil, or_false, not_or] at nb
        exact kp c o nb.1 nb.2.2.1 nb.2.2.2.1 nb.2.2.2.2 q) hf⟩
  self := fun A i s Q E st h => wpAny_pyIter_zip st.1 h
end
end L2

namespace L2
open PySem PySem.Spec PyProof.Rows
theorem draws_tup {P : Program} {w : World} {A : Around} (hh : A.handled = none) {i b : Addr} (hne : b ≠ i) (ys : List V) :
    Draws P w A i [i, b] ys.length (fun k v => ∃ y, ys[k]? = some y ∧ RelV y v) (fun k h => h.IsTupleIter i b k ∧ ∃ its : List Value, Vals ys its ∧ h.IsTuple b its.toArray) where
  live := fun _ _ st => let ⟨o, ho, _⟩ := st.1; ⟨o, ho⟩
  frame := fun _ _ _ st hk => ⟨st.1.at fun o e => hk i (by simp) o e, let ⟨its, rv, p⟩ := st.2; ⟨its, rv, p.at fun o e => hk b (by simp) o e⟩⟩
  item := fun k s Q E hi ⟨s1, its, rv, p⟩ hQ => by
    have el : its.toArray.size = ys.length := by
      have := rv.length
      simp
      omega
    refine (Draws.tuple hh i b hne its.toArray).item k s Q E (by omega) ⟨s1, p⟩ fun x h' tk px st' sb => hQ x h' tk ?_ ⟨st'.1, its, rv, st'.2⟩ sb
    obtain ⟨u, hu, ru⟩ := rv.get (List.getElem?_eq_getElem hi)
    have eu : u = x := by
      have z : its[k]? = some x := by simpa using px
      rw [hu] at z
      exact Option.some.inj z
    subst eu
    exact ⟨_, List.getElem?_eq_getElem hi, ru⟩
  done := fun s Q E ⟨s1, its, rv, p⟩ hE => by
    have el : its.toArray.size = ys.length := by
      have := rv.length
      simp
      omega
    refine (Draws.tuple hh i b hne its.toArray).done s Q E ⟨?_, p⟩ hE
    rw [el]
    exact s1
theorem side_tup {P : Program} {w : World} {K : PySem.W.Frag} {i b : Addr} (hne : b ≠ i) (ys : List V) :
    Side P w K i [i, b] ys.length (fun k v => ∃ y, ys[k]? = some y ∧ RelV y v) (fun k h => h.IsTupleIter i b k) (fun _ h => ∃ its : List Value, Vals ys its ∧ h.IsTuple b its.toArray) (fun H => SqT K H b ys) (fun k y => ys[k]? = some y) where
  dr := fun A hh => draws_tup hh hne ys
  cell := fun k h ⟨o, e, _, d⟩ => ⟨o, e, fun v q => by rw [d] at q; cases q⟩
  at_ := fun k h h' st f => st.at f
  so := fun X pins σ H s k hK I hq => by
    subst hK
    obtain ⟨its, rv, p, _⟩ := I.tuple hq
    exact ⟨its, rv, p⟩
  rel := fun X pins σ H s k x _ _ _ hx => hx
theorem side_txt {P : Program} {w : World} {K : PySem.W.Frag} {i : Addr} (x : Str) (t : Tok) :
    Side P w K i [i] x.cps.size (fun k v => ∃ c u, x.cps[k]? = some c ∧ v = .str ⟨#[c]⟩ u) (fun k h => h.IsStrIter i (strIterType x) x t k) (fun _ _ => True) (fun _ => True) (fun k y => ∃ c, x.cps[k]? = some c ∧ y = .str ⟨#[c]⟩) where
  dr := fun A hh => {
    live := fun _ _ st => let ⟨o, ho, _⟩ := st.1; ⟨o, ho⟩
    frame := fun k h h' st hk => ⟨(Draws.text (prog := P) (w := w) hh i x t).frame k h h' st.1 hk, True.intro⟩
    item := fun k s Q E hi st hQ => (Draws.text hh i x t).item k s Q E hi st.1 fun y h' tk p st' sb => hQ y h' tk p ⟨st', True.intro⟩ sb
    done := fun s Q E st hE => (Draws.text hh i x t).done s Q E st.1 hE }
  cell := fun k h ⟨o, e, _, d⟩ => ⟨o, e, fun v q => by rw [d] at q; cases q⟩
  at_ := fun k h h' ⟨o, e, r⟩ f => ⟨o, f o e, r⟩
  so := fun _ _ _ _ _ _ _ _ _ => True.intro
  rel := fun X pins σ H s k v _ _ _ ⟨c, u, hc, e⟩ => ⟨.str ⟨#[c]⟩, ⟨c, hc, rfl⟩, by
    subst e
    exact ⟨u, rfl⟩⟩
/-- what a zip may walk here: a tuple, a text -/
inductive Zs (K : PySem.W.Frag) (H : Hp) : V → Nat → (Hp → Prop) → (Nat → V → Prop) → Prop where
  | tup {b : Addr} {ys : List V} (h : SqT K H b ys) : Zs K H (.ref b) ys.length (fun H => SqT K H b ys) (fun k y => ys[k]? = some y)
  | txt (x : Str) : Zs K H (.str x) x.cps.size (fun _ => True) (fun k y => ∃ c, x.cps[k]? = some c ∧ y = .str ⟨#[c]⟩)
section
variable {X : Cx} {pins : List (Addr × Obj)} {σ : St} {H : Hp} {s : Shared}
theorem zs_side {v : V} {u : Value} {n : Nat} {hold : Hp → Prop} {m : Nat → V → Prop} (Z : Zs X.K H v n hold m) (r : RelV v u) (I : Inv X pins σ H s) :
    ∃ (o : Obj) (B : Heap → Prop), Begins u o B ∧ B s.heap ∧ hold H ∧ ∀ i, s.heap.objs.size ≤ i → ∃ (fp : List Addr) (P : Nat → Value → Prop) (It So : Nat → Heap → Prop), Side X.prog X.w X.K i fp n P It So hold m ∧ i ∈ fp ∧ (∀ c, s.heap.objs.size ≤ c → c ≠ i → c ∉ fp) ∧ ∀ h' : Heap, h'.get? i = some o → It 0 h' := by
  cases Z with
  | @tup b ys hq =>
    cases r
    obtain ⟨its, rv, p, _⟩ := I.tuple hq
    have lb : b < s.heap.objs.size := by
      obtain ⟨_, q, _⟩ := p
      exact Heap.lt_size q
    refine ⟨_, _, begins_tuple b its.toArray, p, hq, fun i hi => ⟨_, _, _, _, side_tup (Nat.ne_of_lt (Nat.lt_of_lt_of_le lb hi)) ys, List.mem_cons_self, fun c hc nc => ?_, fun h' q => ⟨_, q, rfl, rfl⟩⟩⟩
    simp only [List.mem_cons, List.not_mem_nil, or_false, not_or]
    exact ⟨nc, Nat.ne_of_gt (Nat.lt_of_lt_of_le lb hc)⟩
  | txt x =>
    obtain ⟨t, rfl⟩ := r
    refine ⟨_, _, begins_text x t, True.intro, True.intro, fun i hi => ⟨_, _, _, _, side_txt x t, List.mem_cons_self, fun c hc nc => ?_, fun h' q => ⟨_, q, rfl, rfl⟩⟩⟩
    simp only [List.mem_cons, List.not_mem_nil, or_false]
    exact nc
end
theorem neA {a b : Nat} (h : a ≠ b) : (a : Addr) ≠ (b : Addr) := h
def iZipM (K : PySem.W.Frag) (ta : TA) : TI := fun σ H R => ta σ H fun vs H1 => ∃ (v1 v2 : V) (n1 n2 : Nat) (h1 h2 : Hp → Prop) (m1 m2 : Nat → V → Prop), vs = [v1, v2] ∧ Zs K H1 v1 n1 h1 m1 ∧ Zs K H1 v2 n2 h2 m2 ∧ R (ItzG n1 n2 h1 h2 m1 m2) H1
theorem pi_zipM {X : Cx} {e e2 : Expr} {ta : TA} {p pos tpos : Pos} {elts : List Expr} {kk : Nat} (hg : Gl X "zip") (hm : X.mg "zip" = none) (ha : PA X [e, e2] ta)
    (hs : starEach [e, e2] X.env = (false, eval e X.env) :: starEach [e2] X.env := by rfl) (hpl : (backTo pos (starEach [e2] X.env)).any (·.1) = false := by rfl) :
    PI X (.Tuple elts kk tpos) (.Call (.Name "zip" p) [e, e2] [] pos) (iZipM X.K ta) := by
  refine ⟨fun pins s σ H R I h => Call_ (ld_blt I hg hm PyProof.Rows.boot_zip (PyProof.Rows.callWith_type1 (thn (ha.run pos pins s σ H _ I h) fun us s1 ⟨vs, H1, I1, r1, q1⟩ => ?_) hs hpl))⟩
  obtain ⟨v1, v2, n1, n2, h1, h2, m1, m2, ex, Z1, Z2, q⟩ := q1
  subst ex
  obtain ⟨u1, u2, rfl, ra, rb⟩ := vals2 r1
  obtain ⟨o1, B1, b1, c1, k1, f1⟩ := zs_side Z1 ra I1
  obtain ⟨o2, B2, b2, c2, k2, f2⟩ := zs_side Z2 rb I1
  obtain ⟨fp1, P1, It1, S1, A1, e1, x1, t1⟩ := f1 s1.heap.objs.size (Nat.le_refl _)
  obtain ⟨fp2, P2, It2, S2, A2, e2', x2, t2⟩ := f2 (s1.heap.objs.size + 1) (Nat.le_succ _)
  have fresh : ∀ c, c ∈ [s1.heap.objs.size + 4, s1.heap.objs.size + 2, s1.heap.objs.size + 3, s1.heap.objs.size, s1.heap.objs.size + 1] → FpOk X pins H1 c := fun c hc => by
    have le : s1.heap.objs.size ≤ c := by
      simp only [List.mem_cons, List.not_mem_nil, or_false] at hc
      omega
    exact I1.fpOk le (I1.hok.fresh le)
  refine zip_begins2 b1 b2 c1 c2 fun h' hz hTI hTO g1 g2 hsz hk => wpAny_pyIter_zip hz ?_
  have I2 : Inv X pins σ H1 { s1 with heap := h' } := I1.kept (t' := s1.toks) hk
  have D : ZipSep2 (s1.heap.objs.size + 4) (s1.heap.objs.size + 2) (s1.heap.objs.size + 3) s1.heap.objs.size (s1.heap.objs.size + 1) fp1 fp2 :=
    { TIz := (neA (by omega)), TOz := (neA (by omega)), TITO := (neA (by omega)), TIi1 := (neA (by omega)), mem1 := e1, zf1 := x1 _ (by omega) ((neA (by omega))), Tf1 := x1 _ (by omega) ((neA (by omega))), TIi2 := (neA (by omega)), mem2 := e2',
      zf2 := x2 _ (by omega) ((neA (by omega))), Tf2 := x2 _ (by omega) ((neA (by omega))), sep1_2 := x2 _ (by omega) ((neA (by omega))), sep2_1 := x1 _ (by omega) ((neA (by omega))) }
  exact ⟨s1.heap.objs.size + 4, [s1.heap.objs.size + 4, s1.heap.objs.size + 2, s1.heap.objs.size + 3, s1.heap.objs.size, s1.heap.objs.size + 1], _, _, H1, rfl, I2, turn_zipG D A1 A2, ⟨hz, hTI, ⟨_, _, hTO⟩, t1 h' g1, t2 h' g2⟩, fresh, q⟩
end L2

/-! enumerate over what never changes; rules of which one serves -/
namespace L2
open PySem PySem.Spec PyProof.Rows
theorem pi_or {X : Cx} {tg it : Expr} {u v : TI} (h1 : PI X tg it u) (h2 : PI X tg it v) : PI X tg it (fun σ H R => u σ H R ∨ v σ H R) :=
  ⟨fun pins s σ H R I h => h.elim (h1.run pins s σ H R I) (h2.run pins s σ H R I)⟩
theorem callR_or {X : Cx} {f : Value} {u v : List V → Hp → VK → Prop} (h1 : CallR X f u) (h2 : CallR X f v) : CallR X f (fun xs H Q => u xs H Q ∨ v xs H Q) :=
  fun pins s σ H xs us Q I r h => h.elim (h1 pins s σ H xs us Q I r) (h2 pins s σ H xs us Q I r)
theorem meets_enum1 {v : Value} {o : Obj} {B : Heap → Prop} (G : Begins v o B) :
    Meets (Builtin.«enumerate.__new__» ⟨[.type "enumerate", v], []⟩) (fun _ R s => B s.heap ∧
      R (.ok (.ret (.ref (s.heap.push o).objs.size))) { s with heap := (s.heap.push o).push { cls := .type "enumerate", data := .fields #[.none, .bool false, .ref s.heap.objs.size, rawInt 0, .none, .none] } }) :=
  .of_wp fun prog w A R s ⟨b1, q⟩ => by
    obtain ⟨hp, gs, dr, tk, os⟩ := s
    have sub := sub_enumerate
    have it1 : ∀ {A' : Around} {E : Value → Shared → Prop} {Q : Value → Shared → Prop}, Q (.ref hp.objs.size) ⟨hp.push o, gs, dr, tk, os⟩ → wpAny (model prog w) A' (pyIter v) Q E ⟨hp, gs, dr, tk, os⟩ :=
      fun y => G.iter prog w _ _ ⟨hp, gs, dr, tk, os⟩ _ b1 y
    wp_walk using it1
    refine wpAny_stack_any fun st => wpAny_pure ?_
    split
    · rename_i c _ _ _ _ _
      cases (c == Value.type "enumerate") <;> (wp_walk using it1; exact ⟨_, rfl, q⟩)
    · wp_walk using it1
      exact ⟨_, rfl, q⟩
def ItnG (n : Nat) (hold : Hp → Prop) (m : Nat → V → Prop) : It :=
  ⟨fun i H => i < n ∧ hold H, fun i H v H' => ∃ T x, v = .ref T ∧ H T = none ∧ H' = upd H T (.tup [.int (i : Nat), x]) ∧ m i x, fun i H => i = n ∧ hold H⟩
theorem turn_enumG {P : Program} {w : World} {K : PySem.W.Frag} {e i : Addr} {fp : List Addr} {n : Nat} {Pv : Nat → Value → Prop} {It So : Nat → Heap → Prop} {hold : Hp → Prop} {m : Nat → V → Prop} {elts : List Expr} {kk : Nat} {tpos : Pos}
    (ne : e ≠ i) (nf : e ∉ fp) (A1 : Side P w K i fp n Pv It So hold m) :
    Turn P w K (.Tuple elts kk tpos) (ItnG n hold m) [e, i] e (fun k h => (∃ old, IsEnum h e i ((k : Nat) : Int) old) ∧ It k h) where
  mem := List.mem_cons_self
  obj := fun k h ⟨⟨old, a1⟩, a2⟩ c hc => by
    simp only [List.mem_cons, List.not_mem_nil, or_false] at hc
    rcases hc with rfl | rfl
    · exact ⟨_, a1, fun _ q => nomatch q⟩
    · exact A1.cell k h a2
  keep := fun k h h' ⟨⟨old, a1⟩, a2⟩ kp => ⟨⟨old, kp e (by simp) _ a1⟩, A1.at_ k h h' a2 fun o => kp i (by simp) o⟩
  item := by
    intro X hP hw hK hc k pins s σ H E I hf ⟨⟨old, a1⟩, a2⟩ ⟨l1, g1⟩
    subst hP hw
    have el : e < s.heap.objs.size := Heap.lt_size a1
    refine wpAny_pyNext_enum_itemD (A1.dr _ (I.ok.hd hc)) a1 ⟨a2, A1.so X pins σ H s k hK I g1⟩ l1 ne nf fun u h' tk p1 b1 b2 b3 b4 kp => ?_
    obtain ⟨x, mx, rx⟩ := A1.rel X pins σ H s k u hK I g1 p1
    refine ⟨_, rfl, wpAny_letOwnedTupleGo_enum (s := { s with heap := h', toks := tk + 1 }) b1 fun h'' b1' sb => ?_⟩
    have tup : h''.get? s.heap.objs.size = some { cls := .type "tuple", data := .seq #[.int k tk, u] } := (sb.2 _ (Nat.ne_of_gt el)).trans b3
    have new : ObjOk X.prog X.w (upd H s.heap.objs.size (.tup [.int (k : Nat), x])) h'' s.heap.objs.size (.tup [.int (k : Nat), x]) :=
      ⟨by show 2 ≤ sizeLine; decide, [.int k tk, u], .cons ⟨_, rfl⟩ (.cons rx .nil), ⟨_, tup, rfl, _, rfl⟩⟩
    have J : Inv X pins σ (upd H s.heap.objs.size (.tup [.int (k : Nat), x])) { s with heap := h'', toks := tk + 1 } :=
      I.turnedNew (t' := tk + 1) (ch := [e, i]) (fun c o nb q => by
        simp only [List.mem_cons, List.not_mem_nil, or_false, not_or] at nb
        exact (sb.2 c nb.1).trans (kp c o nb.1 nb.2 q)) hf (Nat.le_refl _) new
    refine ⟨.ref s.heap.objs.size, _, J, rfl, ⟨_, x, rfl, I.hok.fresh (Nat.le_refl _), rfl, mx⟩, ⟨⟨u, ?_⟩, A1.at_ _ _ _ b2.1 fun o q => (sb.2 _ (Ne.symm ne)).trans q⟩, fun c hcm => ?_⟩
    · have z : ((k + 1 : Nat) : Int) = (k : Int) + 1 := by omega
      rw [z]
      exact b1'
    · have lt : c < s.heap.objs.size := by
        simp only [List.mem_cons, List.not_mem_nil, or_false] at hcm
        rcases hcm with rfl | rfl
        · exact el
        · obtain ⟨_, q, _⟩ := A1.cell k _ a2
          exact Heap.lt_size q
      rw [upd_ne (Nat.ne_of_lt lt)]
      exact (hf c hcm).1
  done := by
    intro X hP hw hK hc k pins s σ H E I hf ⟨⟨old, a1⟩, a2⟩ ⟨l1, g1⟩
    subst hP hw l1
    exact wpAny_pyNext_enum_endD (A1.dr _ (I.ok.hd hc)) a1 ⟨a2, A1.so X pins σ H s k hK I g1⟩ fun h' eb =>
      ⟨rfl, I.turnedL (t' := s.toks) (ch := [e, i]) (fun c o nb q => by
        simp only [List.mem_cons, List.not_mem_nil, or_false, not_or] at nb
        exact eb c o nb.2 q) hf⟩
  self := fun A k s Q E st h => let ⟨⟨_, a1⟩, _⟩ := st; wpAny_pyIter_enum a1 h
def iEnumM (K : PySem.W.Frag) (ta : TA) : TI := fun σ H R => ta σ H fun vs H1 => ∃ (v : V) (n : Nat) (hold : Hp → Prop) (m : Nat → V → Prop), vs = [v] ∧ Zs K H1 v n hold m ∧ R (ItnG n hold m) H1
theorem pi_enumM {X : Cx} {e : Expr} {ta : TA} {p pos tpos : Pos} {elts : List Expr} {kk : Nat} (hg : Gl X "enumerate") (hm : X.mg "enumerate" = none) (ha : PA X [e] ta) (hs : starEach [e] X.env = [(false, eval e X.env)] := by rfl) :
    PI X (.Tuple elts kk tpos) (.Call (.Name "enumerate" p) [e] [] pos) (iEnumM X.K ta) := by
  refine ⟨fun pins s σ H R I h => Call_ (ld_blt I hg hm boot_enumerate (PyProof.Rows.callWith_type1 (thn (ha.run pos pins s σ H _ I h) fun us s1 ⟨vs, H1, I1, r1, q1⟩ => ?_) hs rfl))⟩
  obtain ⟨v, n, hold, m, ex, Z, q⟩ := q1
  subst ex
  obtain ⟨u, rfl, ru⟩ := vals1 r1
  obtain ⟨o, B, b1, c1, k1, f1⟩ := zs_side Z ru I1
  obtain ⟨fp, Pv, It, So, A1, e1, x1, t1⟩ := f1 s1.heap.objs.size (Nat.le_refl _)
  refine callType_new F.called_enumerate (by decide) (F.typeCall_enumerate_1 _) (F.newCall_enumerate_1 _) (fun obj => F.args_object_init_2 obj _) F.entry_enumerate_new (meets_enum1 b1) ⟨c1, ?_⟩
  have z1 : (s1.heap.push o).objs.size = s1.heap.objs.size + 1 := Heap.size_push ..
  show _ ∧ _
  rw [z1]
  have he : IsEnum ((s1.heap.push o).push { cls := .type "enumerate", data := .fields #[.none, .bool false, .ref s1.heap.objs.size, rawInt 0, .none, .none] }) (s1.heap.objs.size + 1) s1.heap.objs.size 0 .none := by
    have y := Heap.get?_push_size (s1.heap.push o) (o := { cls := .type "enumerate", data := .fields #[.none, .bool false, .ref s1.heap.objs.size, rawInt 0, .none, .none] }) rfl
    rw [z1] at y
    exact y
  refine ⟨⟨_, he, rfl⟩, wpAny_pyIter_enum he ?_⟩
  have I2 : Inv X pins σ H1 { s1 with heap := (s1.heap.push o).push { cls := .type "enumerate", data := .fields #[.none, .bool false, .ref s1.heap.objs.size, rawInt 0, .none, .none] } } :=
    I1.kept (t' := s1.toks) fun c o' q => Heap.get?_push_of_some _ (Heap.get?_push_of_some _ q)
  refine ⟨s1.heap.objs.size + 1, [s1.heap.objs.size + 1, s1.heap.objs.size], _, _, H1, rfl, I2, turn_enumG (Nat.succ_ne_self _) (x1 _ (Nat.le_succ _) (Nat.succ_ne_self _)) A1, ⟨⟨_, he⟩, t1 _ (Heap.get?_push_of_some _ (Heap.get?_push_size _ b1.free))⟩, fun c hc => ?_, q⟩
  have le : s1.heap.objs.size ≤ c := by
    have hc2 : c = s1.heap.objs.size + 1 ∨ c = s1.heap.objs.size := by simpa using hc
    rcases hc2 with q2 | q2
    · rw [q2]
      exact Nat.le_succ _
    · rw [q2]
      exact Nat.le_refl _
  exact I1.fpOk le (I1.hok.fresh le)
end L2

/-! numbers, indexes, lists of goals -/
namespace K52
open PySem L2 Evl OxK
/-- a number from 0 to n - 1 -/
def isIx : V → Int → Bool
  | .int i, n => decide (0 ≤ i) && decide (i < n)
  | _, _ => false
def spNum (K : PySem.W.Frag) : Sp := fun vs H Q _ => ∃ (v : V) (T : String), vs = [v] ∧ Kn K H v T ∧ ∀ H', Ex H H' → Q (.bl (decide (T = "int"))) H'
def spIdx (K : PySem.W.Frag) : Sp := fun vs H Q _ => ∃ (v : V) (n : Int), vs = [v, .int n] ∧ Flat v ∧ ∀ H', Ex H H' → Q (.bl (isIx v n)) H'
def spLst (K : PySem.W.Frag) : Sp := fun vs H Q _ => ∃ (v : V) (T : String), vs = [v] ∧ Kn K H v T ∧ ∀ H', Ex H H' → Q (.bl (isB T "list" || isB T "tuple")) H'
section
variable {P : Program} {w : World} {K : PySem.W.Frag} {mg : Str → Option Value} {base : Heap} {f : Addr} {fd : FuncData}
def spGls (K : PySem.W.Frag) : Sp := fun vs H Q _ => ∃ (v : V) (L n : Int), vs = [v, .int L, .int n] ∧ ((Flat v ∧ ∀ H', Ex H H' → Q (.bl false) H') ∨
  ∃ (a : Addr) (xs : List V), v = .ref a ∧ (H a = some (.lst xs) ∨ H a = some (.tup xs)) ∧ (∀ x ∈ xs, Flat x) ∧ xs.length ≤ 1000 ∧ ∀ H', Ex H H' → Q (.bl (decide ((xs.length : Int) = L) && xs.all fun x => isIx x n)) H')
end
end K52

/-! alphabets -/
namespace K52
open PySem L2 Evl OxK
/-- the signs of a text -/
def sg (x : Str) : List Nat := x.cps.toList
structure AlphaOk (x : Str) : Prop where
  one : 1 ≤ (sg x).length
  three : (sg x).length ≤ 3
  climbs : ∀ k a b, (sg x)[k]? = some a → (sg x)[k + 1]? = some b → a < b
  low : ∀ c ∈ sg x, 97 ≤ c ∧ c ≤ 122
theorem cut_tail (x : Str) (h : 1 ≤ x.length) : (cutS x (some 1) none).cps.toList = (sg x).drop 1 := by
  have hl : x.length = (sg x).length := by simp [Str.length, sg]
  unfold cutS
  have e : HT.sIx x.length 0 (some ((1 : Nat) : Int)) = min 1 x.length := HT.sIx_nat _ _ 1
  have e1 : HT.sIx x.length 0 (some 1) = 1 := by
    have z : HT.sIx x.length 0 (some 1) = min 1 x.length := e
    omega
  have e2 : HT.sIx x.length x.length none = x.length := rfl
  rw [e1, e2]
  show ((sg x).drop 1).take (x.length - 1) = (sg x).drop 1
  rw [List.take_of_length_le]
  rw [List.length_drop]
  omega
def spAlp : Sp := fun vs H Q _ => ∃ x : Str, vs = [.str x] ∧ AlphaOk x ∧ ∀ H', Ex H H' → Q (.bl true) H'
section
variable {P : Program} {w : World} {K : PySem.W.Frag} {mg : Str → Option Value} {base : Heap} {f : Addr} {fd : FuncData}
theorem ev_allT0 {K : PySem.W.Frag} {σ : L2.St} {H : Hp} {te : TE} {n : Nat} (h : EvL te σ H ((List.range n).map fun _ => V.bl true)) : Ev (tCB (rAll K) (tCons te tNil)) σ H (.bl true) := fun H1 e Q q =>
  h H1 e _ fun p H2 _ e2 h2 => ⟨p, (List.range n).map fun _ => true, rfl, SqL.of (by rw [h2, List.map_map]; rfl), by
    have z : ((List.range n).map fun _ => true).all id = true := by simp
    rw [z]
    exact q H2 e2⟩
theorem lc_true {K : PySem.W.Frag} {J : It} {n : Nat} {g : TG} {te : TE} {vs : List Nat} {σ : L2.St} {H1 : Hp} {D : Addr} {Q : VK} (hD : H1 D = none) (hn : n ≤ 1000) (hgo : ∀ i H, Ex H1 H → i < n → J.go i H) (hst : ∀ H, Ex H1 H → J.stop n H)
    (hs : ∀ i H x H', Ex H1 H → i < n → J.yld i H x H' → Ex H H' ∧ g x (wipe σ vs) H' fun σ2 H2 => wipe σ2 vs = wipe σ vs ∧ H2 = H' ∧ ∀ Q2 : VK, Q2 (.bl true) H2 → te σ2 H2 Q2)
    (hg : ∀ (x : V) (τ : L2.St) (H : Hp) (A B : L2.St → Hp → Prop), (∀ τ' H', A τ' H' → B τ' H') → g x τ H A → g x τ H B) (q : ∀ H, Ex H1 H → H D = some (.lst ((List.range n).map fun _ => V.bl true)) → Q (.ref D) H) :
    ∃ W : Nat → Nat → Hp → Prop, (∃ m, W 0 m (upd H1 D (.lst []))) ∧ ∀ i m H, W i m H →
      (J.stop i H ∧ Q (.ref D) H) ∨ (J.go i H ∧ ∃ Nx : Hp → Prop, (∀ H', Nx H' → ∃ m', m' < m ∧ W (i + 1) m' H') ∧ ∀ x H', J.yld i H x H' → g x (wipe σ vs) H' fun σ2 H2 => wipe σ2 vs = wipe σ vs ∧ tYes σ2 H2 fun b H3 =>
        if b = true then te σ2 H3 fun y H4 => ∃ acc, H4 D = some (.lst acc) ∧ acc.length < sizeLine ∧ Nx (upd H4 D (.lst (acc ++ [y]))) else Nx H3) := by
  refine lc_any (J := J) (n := n) (fun i H => Ex H1 H ∧ H D = some (.lst ((List.range i).map fun _ => V.bl true))) ⟨Ex.new hD, upd_same⟩ (fun i H hi p => hgo i H p.1 hi) (fun H p => hst H p.1) (fun i H x H' hi p y => ?_) (fun H p => q H p.1 p.2)
  obtain ⟨e, z⟩ := hs i H x H' p.1 hi y
  refine hg _ _ _ _ _ (fun τ H2 ⟨h1, h2, h3⟩ => ⟨h1, tt_yes (h3 _ ?_)⟩) z
  subst h2
  refine ⟨_, e _ _ p.2, small1000 (by rw [List.length_map, List.length_range]; omega), Ex.mut (p.1.trans e) hD, ?_⟩
  rw [upd_same, List.range_succ, List.map_append]
  rfl
theorem g_name_mono (j : Nat) : ∀ (x : V) (τ : L2.St) (H : Hp) (A B : L2.St → Hp → Prop), (∀ τ' H', A τ' H' → B τ' H') → gName j x τ H A → gName j x τ H B := fun _ _ _ _ _ h z => h _ _ z
theorem g_two_mono {K : PySem.W.Frag} (i j : Nat) : ∀ (x : V) (τ : L2.St) (H : Hp) (A B : L2.St → Hp → Prop), (∀ τ' H', A τ' H' → B τ' H') → gTup K 2 (gCons (gName i) (gCons (gName j) gNil)) x τ H A → gTup K 2 (gCons (gName i) (gCons (gName j) gNil)) x τ H B :=
  fun _ _ _ _ _ h ⟨a, xs, r, s, l, v, r1, e1, v2, r2, e2, e3, z⟩ => ⟨a, xs, r, s, l, v, r1, e1, v2, r2, e2, e3, h _ _ z⟩
end
end K52

/-! an alphabet and a number of states that are in order -/
namespace K52
open PySem L2 Evl OxK
/-- C tells its number of states as 24 -/
def Told24 (K : PySem.W.Frag) (C : Addr) : Prop := ∃ mc u, ClX.CRead K C mc ∧ ClX.CVal K C mc "STATES" (.int 24) u
def spRsh : Sp := fun vs H Q _ => ∃ (x : Str) (n : Int), vs = [.str x, .int n] ∧ AlphaOk x ∧ 1 ≤ n ∧ n ≤ 24 ∧ ∀ H', Ex H H' → Q .non H'
section
variable {P : Program} {w : World} {K : PySem.W.Frag} {mg : Str → Option Value} {base : Heap} {f : Addr} {fd : FuncData}
end
end K52

/-! the words to the states, breadth first: the numbers behind it -/
namespace K52
open PySem L2 Evl OxK
/-- the goals by the letters, put in where they are new -/
def vis (w : Str) : List (Nat × Nat) → List (Nat × Str) → List (Nat × Str)
  | [], kvs => kvs
  | (c, g) :: r, kvs => vis w r (if kvs.any (fun p => p.1 == g) then kvs else kvs ++ [(g, w ++ ⟨#[c]⟩)])
/-- from the d-th on -/
def bfs (x : Str) (rows : List (List Nat)) : Nat → Nat → List (Nat × Str) → List (Nat × Str)
  | 0, _, kvs => kvs
  | m + 1, d, kvs => match kvs[d]? with
    | none => kvs
    | some (s, w) => bfs x rows m (d + 1) (vis w ((sg x).zip (rows.getD s [])) kvs)
def roads (x : Str) (rows : List (List Nat)) : List (Nat × Str) := bfs x rows (rows.length + 1) 0 [(0, ⟨#[]⟩)]
def dkv (kvs : List (Nat × Str)) : List (Key × V) := kvs.map fun p => (.inl (p.1 : Int), .str p.2)
def keysV (kvs : List (Nat × Str)) : List V := kvs.map fun p => V.int (p.1 : Int)
/-- the rows at r, a tuple of tuples -/
def Rws (K : PySem.W.Frag) (H : Hp) (r : Addr) (rows : List (List Nat)) : Prop := ∃ bs : List Addr, SqT K H r (bs.map V.ref) ∧ bs.length = rows.length ∧ ∀ (i : Nat) (b : Addr) (row : List Nat), bs[i]? = some b → rows[i]? = some row → SqT K H b (row.map fun g : Nat => V.int (g : Int))
structure RowsOk (x : Str) (rows : List (List Nat)) : Prop where
  one : 1 ≤ rows.length
  most : rows.length ≤ 24
  wide : ∀ row ∈ rows, row.length = (sg x).length
  lt : ∀ row ∈ rows, ∀ g ∈ row, g < rows.length
def spFw (K : PySem.W.Frag) : Sp := fun vs H Q _ => ∃ (x : Str) (r : Addr) (rows : List (List Nat)), vs = [.str x, .ref r] ∧ AlphaOk x ∧ RowsOk x rows ∧ Rws K H r rows ∧ ∀ H' d, H d = none → Ex H H' → H' d = some (.dK (dkv (roads x rows))) → Q (.ref d) H'
structure BOk (n : Nat) (kvs : List (Nat × Str)) : Prop where
  nod : (kvs.map (·.1)).Nodup
  lt : ∀ p ∈ kvs, p.1 < n
  wd : ∀ p ∈ kvs, p.2.length < kvs.length
theorem BOk.few {n : Nat} {kvs : List (Nat × Str)} (b : BOk n kvs) : kvs.length ≤ n := by
  have h := L2.nat_nodup_len (kvs.map (·.1)) (List.range n) b.nod (fun x hx => by
    obtain ⟨p, hp, rfl⟩ := List.mem_map.mp hx
    exact List.mem_range.mpr (b.lt p hp))
  simpa using h
theorem any_key {kvs : List (Nat × Str)} {g : Nat} : kvs.any (fun p => p.1 == g) = true ↔ g ∈ kvs.map (·.1) := by
  simp [List.any_eq_true, List.mem_map]
theorem dkv_val {kvs : List (Nat × Str)} (nd : (kvs.map (·.1)).Nodup) {s : Nat} {w : Str} (h : (s, w) ∈ kvs) : valV (dkv kvs) (.inl (s : Int)) = some (.str w) := by
  induction kvs with
  | nil => cases h
  | cons p r ih =>
    rw [List.map_cons, List.nodup_cons] at nd
    rcases List.mem_cons.mp h with e | e
    · subst e
      exact valV_pos rfl
    · have ne : ¬ ((.inl (p.1 : Int) : Key) = .inl (s : Int)) := by
        intro z
        have z1 : (p.1 : Int) = (s : Int) := Sum.inl.inj z
        have z2 : p.1 = s := by omega
        exact nd.1 (z2 ▸ List.mem_map.mpr ⟨_, e, rfl⟩)
      show valV ((.inl (p.1 : Int), V.str p.2) :: dkv r) _ = _
      rw [valV_neg ne]
      exact ih nd.2 e
theorem dkv_some {kvs : List (Nat × Str)} {g : Nat} : (valV (dkv kvs) (.inl (g : Int))).isSome = kvs.any (fun p => p.1 == g) := by
  rw [← valV_any]
  induction kvs with
  | nil => rfl
  | cons p r ih =>
    show (decide ((Sum.inl (p.1 : Int) : Key) = .inl (g : Int)) || _) = (p.1 == g || _)
    rw [show ((List.map (fun p : Nat × Str => ((Sum.inl (p.1 : Int) : Key), V.str p.2)) r).any fun kv => decide (kv.1 = (.inl (g : Int) : Key))) = r.any (fun p => p.1 == g) from ih]
    congr 1
    rw [Bool.eq_iff_iff]
    simp
    omega
theorem dkv_put {kvs : List (Nat × Str)} {g : Nat} {w : Str} (h : kvs.any (fun p => p.1 == g) = false) : putK (dkv kvs) (.inl (g : Int)) (.str w) = dkv (kvs ++ [(g, w)]) := by
  have z : ((dkv kvs).any fun kv => decide (kv.1 = (.inl (g : Int) : Key))) = false := by rw [valV_any, dkv_some, h]
  unfold putK
  rw [z]
  simp [dkv]
theorem BOk.put {n : Nat} {kvs : List (Nat × Str)} (b : BOk n kvs) {g : Nat} {w : Str} {c : Nat} {s : Nat} (hs : (s, w) ∈ kvs) (hg : g < n) (h : kvs.any (fun p => p.1 == g) = false) : BOk n (kvs ++ [(g, w ++ ⟨#[c]⟩)]) := by
  refine ⟨?_, fun p hp => ?_, fun p hp => ?_⟩
  · rw [List.map_append, List.nodup_append]
    refine ⟨b.nod, by simp, fun a ha b' hb => ?_⟩
    simp at hb
    subst hb
    intro e
    subst e
    rw [any_key.mpr ha] at h
    cases h
  · rcases List.mem_append.mp hp with e | e
    · exact b.lt p e
    · simp at e
      subst e
      exact hg
  · rw [List.length_append]
    rcases List.mem_append.mp hp with e | e
    · have := b.wd p e
      simp
      omega
    · simp at e
      subst e
      have := b.wd _ hs
      show (w ++ (⟨#[c]⟩ : Str)).length < _
      have z : (w ++ (⟨#[c]⟩ : Str)).length = w.length + 1 := by
        show (w.cps ++ #[c]).size = w.cps.size + 1
        simp
      rw [z]
      simp
      exact this
end K52

/-! the words to the states, breadth first -/
namespace K52
open PySem L2 Evl OxK
section
variable {P : Program} {w : World} {K : PySem.W.Frag} {mg : Str → Option Value} {base : Heap} {f : Addr} {fd : FuncData}
end
end K52

/-! walks over a list or a tuple, plain or counted, seen alike -/
namespace L2
open PySem PySem.Spec PyProof.Rows Evl
/-- J goes n times wherever H0 still stands; yl tells what it yields -/
structure Wk (J : It) (H0 : Hp) (n : Nat) (yl : Nat → V → Hp → Hp → Prop) : Prop where
  go : ∀ i H, Ex H0 H → i < n → J.go i H
  stop : ∀ H, Ex H0 H → J.stop n H
  yld : ∀ i H x H', Ex H0 H → i < n → J.yld i H x H' → yl i x H H'
/-- the i-th itself; the i-th with its number, in a new tuple -/
def yPl (xs : List V) : Nat → V → Hp → Hp → Prop := fun i x H H' => H' = H ∧ xs[i]? = some x
def yEn (xs : List V) : Nat → V → Hp → Hp → Prop := fun i x H H' => ∃ T y, x = .ref T ∧ H T = none ∧ H' = upd H T (.tup [.int (i : Nat), y]) ∧ xs[i]? = some y
section
variable {K : PySem.W.Frag} {H0 : Hp} {a : Addr} {xs : List V}
theorem wk_l (h : SqL K H0 a xs) : Wk (Itl K a) H0 xs.length (yPl xs) where
  go := fun i H e hi => ⟨xs, xs[i], ex_l e h, by simp [hi]⟩
  stop := fun H e => ⟨xs, ex_l e h, Nat.le_refl _⟩
  yld := fun i H x H' e _ ⟨r, z⟩ => ⟨r, z xs (ex_l e h)⟩
theorem wk_t (h : SqT K H0 a xs) : Wk (Itt K a) H0 xs.length (yPl xs) where
  go := fun i H e hi => ⟨xs, xs[i], ex_t e h, by simp [hi]⟩
  stop := fun H e => ⟨xs, ex_t e h, Nat.le_refl _⟩
  yld := fun i H x H' e _ ⟨r, z⟩ => ⟨r, z xs (ex_t e h)⟩
theorem wk_et (h : SqT K H0 a xs) : Wk (ItnG xs.length (fun H => SqT K H a xs) (fun k y => xs[k]? = some y)) H0 xs.length (yEn xs) where
  go := fun i H e hi => ⟨hi, ex_t e h⟩
  stop := fun H e => ⟨rfl, ex_t e h⟩
  yld := fun i H x H' e _ z => z
theorem wk_el (h : SqL K H0 a xs) : Wk (Ite K a) H0 xs.length (yEn xs) where
  go := fun i H e hi => ⟨xs, xs[i], ex_l e h, by simp [hi]⟩
  stop := fun H e => ⟨xs, ex_l e h, Nat.le_refl _⟩
  yld := fun i H x H' e _ z => by
    obtain ⟨T, y, r, hT, e2, z⟩ := z
    exact ⟨T, y, r, hT, e2, z xs (ex_l e h)⟩
/-- for, over such a walk -/
theorem for_wk {J : It} {n : Nat} {yl : Nat → V → Hp → Hp → Prop} {g : TG} {tb : TS} {D : Ends} {σ : L2.St} {H : Hp} (wk : Wk J H0 n yl) (Pv : Nat → L2.St → Hp → Prop) (h0 : Pv 0 σ H) (he : ∀ i σ H, Pv i σ H → Ex H0 H)
    (hs : ∀ i x σ H H', i < n → yl i x H H' → Pv i σ H → g x σ H' fun σ2 H2 => tb { D with nx := Pv (i + 1), ct := Pv (i + 1), bk := D.nx } σ2 H2) (hd : ∀ σ H, Pv n σ H → D.nx σ H) :
    ∃ W : Nat → Nat → L2.St → Hp → Prop, (∃ m, W 0 m σ H) ∧ ∀ i m σ H, W i m σ H →
      (J.stop i H ∧ D.nx σ H) ∨ (J.go i H ∧ ∃ N : L2.St → Hp → Prop, (∀ σ' H', N σ' H' → ∃ m', m' < m ∧ W (i + 1) m' σ' H') ∧ ∀ x H', J.yld i H x H' → g x σ H' fun σ2 H2 => tb { D with nx := N, ct := N, bk := D.nx } σ2 H2) := by
  refine ⟨fun i m σ H => m = n - i ∧ i ≤ n ∧ Pv i σ H, ⟨n, by simp, Nat.zero_le _, h0⟩, ?_⟩
  rintro i m σ H ⟨rfl, hi, p⟩
  have e := he i σ H p
  by_cases hlt : i < n
  · exact .inr ⟨wk.go i H e hlt, Pv (i + 1), fun σ' H' p' => ⟨n - (i + 1), by omega, rfl, hlt, p'⟩, fun x H' y => hs i x σ H H' hlt (wk.yld i H x H' e hlt y) p⟩
  · have q : i = n := by omega
    subst q
    exact .inl ⟨wk.stop H e, hd σ H p⟩
end
end L2

/-! Machine.__init__ where all is in order -/
namespace K52
open PySem L2 Evl OxK
def rowV (row : List Nat) : List V := row.map fun g : Nat => V.int (g : Int)
/-- a list or a tuple of lists or tuples -/
def Mvs (K : PySem.W.Frag) (H : Hp) (m : Addr) (rows : List (List Nat)) : Prop := ∃ as : List Addr, (H m = some (.lst (as.map V.ref)) ∨ H m = some (.tup (as.map V.ref))) ∧ as.length = rows.length ∧
  ∀ (i : Nat) (a : Addr) (row : List Nat), as[i]? = some a → rows[i]? = some row → H a = some (.lst (rowV row)) ∨ H a = some (.tup (rowV row))
structure MCls (K : PySem.W.Frag) (C : Addr) : Prop where
  c : Cls K C
  s : NoAttr K C "signs"
  r : NoAttr K C "rows"
  d : NoAttr K C "roads"
def mFs (x : Str) (r d : Addr) : List (Str × V) := [("signs", .str x), ("rows", .ref r), ("roads", .ref d)]
/-- a machine at s -/
def IsM (K : PySem.W.Frag) (C : Addr) (H : Hp) (s : Addr) (x : Str) (rows : List (List Nat)) : Prop := ∃ dx r d, H s = some (.ins C dx (mFs x r d)) ∧ Rws K H r rows ∧ H d = some (.dK (dkv (roads x rows)))
def spMi (K : PySem.W.Frag) (C : Addr) : Sp := fun vs H Q _ => ∃ (s : Addr) (x : Str) (m : Addr) (rows : List (List Nat)) (H0 : Hp) (dx : Addr), vs = [.ref s, .str x, .ref m] ∧ AlphaOk x ∧ RowsOk x rows ∧ Mvs K H0 m rows ∧ Ex H0 H ∧ H0 s = none ∧ H s = some (.ins C dx []) ∧
  ∀ H' r d, Ex H0 H' → H0 r = none → H0 d = none → H' s = some (.ins C dx (mFs x r d)) → Rws K H' r rows → H' d = some (.dK (dkv (roads x rows))) → Q .non H'
def rTupOf (K : PySem.W.Frag) : List V → Hp → VK → Prop := fun xs H Q => ∃ p ys, xs = [.ref p] ∧ ((SqL K H p ys ∧ ∀ l, H l = none → Q (.ref l) (upd H l (.tup ys))) ∨ (SqT K H p ys ∧ Q (.ref p) H))
theorem call_tuple_ofK {X : Cx} {K : PySem.W.Frag} (h : X.K = K := by rfl) : CallR X (.type "tuple") (rTupOf K) := by
  subst h
  exact call_tuple_of
theorem or_enum {K : PySem.W.Frag} {σ : L2.St} {H : Hp} {R : It → Hp → Prop} {i : Nat} {m : Addr} {ms : List V} (hv : σ[i]? = some (some (.ref m))) (hm : H m = some (.lst ms) ∨ H m = some (.tup ms)) (k : ∀ J, Wk J H ms.length (yEn ms) → R J H) :
    iEnum K (tCons (tVar i) tNil) σ H R ∨ iEnumM K (tCons (tVar i) tNil) σ H R := by
  rcases hm with h | h
  · exact .inl ⟨_, hv, m, ms, rfl, SqL.of h, k _ (wk_el (SqL.of h))⟩
  · exact .inr ⟨_, hv, .ref m, ms.length, _, _, rfl, .tup (SqT.of h), k _ (wk_et (SqT.of h))⟩
theorem or_seq {K : PySem.W.Frag} {σ : L2.St} {H : Hp} {R : It → Hp → Prop} {i : Nat} {m : Addr} {ms : List V} (hv : σ[i]? = some (some (.ref m))) (hm : H m = some (.lst ms) ∨ H m = some (.tup ms)) (k : ∀ J, Wk J H ms.length (yPl ms) → R J H) :
    iList K (tVar i) σ H R ∨ iTup K (tVar i) σ H R := by
  rcases hm with h | h
  · exact .inl ⟨_, hv, m, rfl, ⟨ms, SqL.of h⟩, k _ (wk_l (SqL.of h))⟩
  · exact .inr ⟨_, hv, m, rfl, ⟨ms, SqT.of h⟩, k _ (wk_t (SqT.of h))⟩
theorem isIx_row {row : List Nat} {n : Nat} (h : ∀ g ∈ row, g < n) : ((rowV row).all fun y => isIx y (n : Int)) = true := by
  rw [List.all_eq_true]
  intro y hy
  obtain ⟨g, hg, rfl⟩ := List.mem_map.mp hy
  have z := h g hg
  show (decide (0 ≤ (g : Int)) && decide ((g : Int) < (n : Int))) = true
  simp
  exact z
section
variable {P : Program} {w : World} {K : PySem.W.Frag} {mg : Str → Option Value} {base : Heap} {f : Addr} {fd : FuncData}
end
end K52

/-! what a machine tells -/
namespace K52
open PySem L2 Evl OxK
def spMal (K : PySem.W.Frag) (C : Addr) : Sp := fun vs H Q _ => ∃ (s : Addr) (x : Str) (rows : List (List Nat)), vs = [.ref s] ∧ IsM K C H s x rows ∧ ∀ H', Ex H H' → Q (.str x) H'
def spMst (K : PySem.W.Frag) (C : Addr) : Sp := fun vs H Q _ => ∃ (s : Addr) (x : Str) (rows : List (List Nat)), vs = [.ref s] ∧ IsM K C H s x rows ∧ ∀ H', Ex H H' → Q (.int (rows.length : Int)) H'
/-- new lists in a new list -/
def NewRows (H H' : Hp) (D : Addr) (rows : List (List Nat)) : Prop := H D = none ∧ ∃ bs : List Addr, bs.length = rows.length ∧ H' D = some (.lst (bs.map V.ref)) ∧ ∀ (j : Nat) (b : Addr) (row : List Nat), bs[j]? = some b → rows[j]? = some row → H b = none ∧ H' b = some (.lst (rowV row))
def spMmv (K : PySem.W.Frag) (C : Addr) : Sp := fun vs H Q _ => ∃ (s : Addr) (x : Str) (rows : List (List Nat)), vs = [.ref s] ∧ IsM K C H s x rows ∧ rows.length ≤ 100 ∧ ∀ H' D, Ex H H' → NewRows H H' D rows → Q (.ref D) H'
def rListOf (K : PySem.W.Frag) : List V → Hp → VK → Prop := fun xs H Q => ∃ p ys, xs = [.ref p] ∧ (SqL K H p ys ∨ SqT K H p ys) ∧ ∀ l, H l = none → Q (.ref l) (upd H l (.lst ys))
theorem call_list_ofK {X : Cx} {K : PySem.W.Frag} (h : X.K = K := by rfl) : CallR X (.type "list") (rListOf K) := by
  subst h
  exact call_list_of
section
variable {P : Program} {w : World} {K : PySem.W.Frag} {mg : Str → Option Value} {base : Heap} {f C : Addr} {fd : FuncData}
end
end K52

/-! the states that words lead to -/
namespace K52
open PySem L2 Evl OxK
theorem vis_ok {n : Nat} {st : Nat} {w : Str} : ∀ (zs : List (Nat × Nat)) (kvs : List (Nat × Str)), (∀ z ∈ zs, z.2 < n) → (st, w) ∈ kvs → BOk n kvs → BOk n (vis w zs kvs)
  | [], _, _, _, b => b
  | (c, g) :: r, kvs, h, m, b => by
    show BOk n (vis w r (if kvs.any (fun p => p.1 == g) then kvs else kvs ++ [(g, w ++ ⟨#[c]⟩)]))
    have hr : ∀ z ∈ r, z.2 < n := fun z hz => h z (List.mem_cons_of_mem _ hz)
    cases e : kvs.any fun p => p.1 == g with
    | true => exact vis_ok r kvs hr m b
    | false => exact vis_ok r _ hr (List.mem_append_left _ m) (b.put m (h (c, g) List.mem_cons_self) e)
theorem bfs_ok {x : Str} {rows : List (List Nat)} (ro : RowsOk x rows) : ∀ (m d : Nat) (kvs : List (Nat × Str)), BOk rows.length kvs → BOk rows.length (bfs x rows m d kvs)
  | 0, _, _, b => b
  | m + 1, d, kvs, b => by
    show BOk rows.length (match kvs[d]? with | none => kvs | some (s, w) => bfs x rows m (d + 1) (vis w ((sg x).zip (rows.getD s [])) kvs))
    cases e : kvs[d]? with
    | none => exact b
    | some p =>
      obtain ⟨s, w⟩ := p
      refine bfs_ok ro m (d + 1) _ (vis_ok (st := s) _ kvs (fun z hz => ?_) (List.mem_of_getElem? e) b)
      have hs := b.lt _ (List.mem_of_getElem? e)
      have z2 : z.2 ∈ rows.getD s [] := (List.of_mem_zip (show (z.1, z.2) ∈ _ from hz)).2
      have hm : rows.getD s [] ∈ rows := by
        rw [List.getD_eq_getElem?_getD, List.getElem?_eq_getElem hs]
        exact List.getElem_mem hs
      exact ro.lt _ hm _ z2
theorem roads_ok {x : Str} {rows : List (List Nat)} (ro : RowsOk x rows) : BOk rows.length (roads x rows) :=
  bfs_ok ro _ _ _ ⟨by simp, fun p hp => by simp at hp; subst hp; exact ro.one, fun p hp => by simp at hp; subst hp; exact Nat.zero_lt_one⟩
/-- the states, as numbers -/
def reach (x : Str) (rows : List (List Nat)) : List Int := (roads x rows).map fun p => (p.1 : Int)
def spMre (K : PySem.W.Frag) (C : Addr) : Sp := fun vs H Q _ => ∃ (s : Addr) (x : Str) (rows : List (List Nat)), vs = [.ref s] ∧ IsM K C H s x rows ∧ RowsOk x rows ∧ ∀ (ys : List Int) (H' : Hp) (D : Addr), ys.Perm (reach x rows) → ys.Pairwise (· ≤ ·) → H D = none → Ex H H' → H' D = some (.lst (ys.map V.int)) → Q (.ref D) H'
section
variable {P : Program} {w : World} {K : PySem.W.Frag} {mg : Str → Option Value} {base : Heap} {f C : Addr} {fd : FuncData}
end
end K52

/-! what repr tells of a machine -/
namespace K52
open PySem L2 Evl OxK
def mRepr (n k : Nat) : Str := (((Str.empty ++ (Str.ofString "Machine(")) ++ (Str.ofString (toString (n : Int))) ++ (Str.ofString " states, ")) ++ (Str.ofString (toString (k : Int)))) ++ (Str.ofString " letters)")
def spMrp (K : PySem.W.Frag) (C : Addr) : Sp := fun vs H Q _ => ∃ (s : Addr) (x : Str) (rows : List (List Nat)), vs = [.ref s] ∧ IsM K C H s x rows ∧ AlphaOk x ∧ RowsOk x rows ∧ ∀ H', Ex H H' → Q (.str (mRepr rows.length x.length)) H'
theorem few_txt : ∀ n : Nat, n < 25 → (Str.ofString (toString (n : Int))).length ≤ 2 := by decide +kernel
theorem len_app (a b : Str) : (a ++ b).length = a.length + b.length := by
  show (a.cps ++ b.cps).size = a.cps.size + b.cps.size
  simp
section
variable {P : Program} {w : World} {K : PySem.W.Frag} {mg : Str → Option Value} {base : Heap} {f C : Addr} {fd : FuncData}
end
end K52

/-! == of an instance (with a dict) by the == of its class: an instance, a list, a tuple, a text, a number or None on the right -/
namespace L2
open PySem PySem.Spec PyProof.Rows Evl
theorem looks_is {M : Model} {s : Shared} {u : Value} {T : String} (h : s.TypeIs u T) : PySem.W.Looks M s.heap (typeOf u) (.type T) := by
  cases u with
  | ref a =>
    obtain ⟨o, ho, hc⟩ := h
    exact hc ▸ (PySem.W.Looks.ld ho).andThen PySem.W.Looks.now
  | _ =>
    intro A Q E s2 _ q
    rw [show typeOf _ = pure (.type T) from h]
    exact wpAny_pure q
/-- the right-hand side: an instance of the class at C', or of the built-in type T -/
inductive RTy (K : PySem.W.Frag) (H : Hp) : V → Value → Prop where
  | ins {b C' dy : Addr} {gs : List (Str × V)} (h : H b = some (.ins C' dy gs)) : RTy K H (.ref b) (.ref C')
  | blt {y : V} {T : String} (h : TyB K H y T) : RTy K H y (.type T)
def rOwnI (K : PySem.W.Frag) (C : Addr) (sp : Sp) (E : XK) : R2 := fun x y H Q => ∃ a dx fs tb, x = .ref a ∧ H a = some (.ins C dx fs) ∧ RTy K H y tb ∧ PySem.W.notFirst K C tb = true ∧ sp [x, y] H Q E
theorem op_ownI {X : Cx} {CX : CXT} {op : CmpOp} {C g : Addr} {n : Nat} {sp : Sp} {E : XK} (hop : ∀ a b, compareOp op a b = richCompare op a b) (hs : PySem.W.findIn X.K (.ref C) (cmpInfo op).2.1 = some (some (.ref g))) (hf : PySem.W.isFn X.K (.ref g) = true) (F : FnR X.prog X.w X.K X.mg X.base CX n g sp)
    (hr : Room n X.A) (hx : Passes CX X E) : OpR X (compareOp op) (rOwnI X.K C sp E) := by
  intro pins s σ H x y v u Q I rx ry h
  obtain ⟨a, dx, fs, tb, rfl, ha, hy, hn, q⟩ := h
  cases (show v = Value.ref a from rx)
  obtain ⟨mA, J, _⟩ := ins_get I.hok ha
  obtain ⟨od, J, _⟩ := J.look
  obtain ⟨m, hF⟩ := I.fr
  have hl : PySem.W.Looks (model X.prog X.w) s.heap (typeOf u) tb := by
    cases hy with
    | @ins b C' dy gs hb =>
      cases (show u = Value.ref b from ry)
      obtain ⟨mB, J', _⟩ := ins_get I.hok hb
      obtain ⟨od', J', _⟩ := J'.look
      exact J'.type
    | blt t => exact looks_is (TyB.is I ry t)
  rw [hop]
  refine PySem.W.cmp_K (op := op) (tb := tb) hr.units0 hF I.ok.mod.kin J hl hn hs hf ?_
  refine wpAny_mono (wpAny_call (run_fnR (us := [.ref a, u]) (vs := [.ref a, y]) F hr hx I (.cons rfl (.cons ry .nil)) q)) (fun w s' z => ?_) fun _ _ x => x
  obtain ⟨z', H', I', rz, qz⟩ := z
  exact SlX.cmpback rz ⟨z', H', I', rz, qz⟩
end L2

/-! != of an instance whose class has its own == and no != : object's, which asks == -/
namespace L2
open PySem PySem.Spec PyProof.Rows Evl
section
variable {M : Model} {prog : Program} {w : World} {A : Around} {E : Value → Shared → Prop} {s : Shared} {K : PySem.W.Frag} {x C f : Addr} {ox : Obj} {od : Option Obj} {b : Value}
theorem ifBound_objNe {args : List Value} {Q : Option Value → Shared → Prop} (X : K.In s.heap) (I : PySem.W.InstAt s.heap x ox C od) (hs : PySem.W.findIn K (.ref C) "__ne__" = some (some (.builtin "object.__ne__")))
    (h : wpAny M A (call (.builtin "object.__ne__") (.ref x :: args)) (fun v => Q (some v)) E s) : wpAny M A (callSpecialIfBound? (.ref x) "__ne__" args) Q E s := by
  simp only [callSpecialIfBound?, bindSpecialIfBound?]
  refine wpAny_holding (wpAny_bind (wpAny_bind (wpAny_bind (I.type.here ((PySem.W.looks_findIn X hs).here ?_)))))
  refine wpAny_bind (wpAny_askSetting (wpAny_ite ?_))
  have fin : wpAny M A (call (.builtin "object.__ne__") ([.ref x] ++ args) >>= fun v => pure (some v)) Q E s := wpAny_bind (wpAny_mono h (fun v s' h' => wpAny_pure h') fun _ _ h' => h')
  split
  · exact wpAny_bind (wpAny_of_eq (F.cmp_object.ne.bind _) (wpAny_pure (by exact fin)))
  · exact wpAny_tryCatch (wpAny_bind (wpAny_of_eq (F.cmp_object.ne.bind _) (wpAny_pure (by exact fin))))
theorem entry_ne {Q : Fin → Shared → Prop} (hu : A.units < cLine) (X : K.In s.heap) (I : PySem.W.InstAt s.heap x ox C od) (hs : PySem.W.findIn K (.ref C) "__eq__" = some (some (.ref f))) (hf : PySem.W.isFn K (.ref f) = true)
    (h : wpAny M A (call (.ref f) [.ref x, b]) (fun v s' => ∃ r : Bool, v = .bool r ∧ Q (.done (.ret (.bool (!r)))) s') E s) : wpAny M A (Builtin.«object.__ne__» ⟨[.ref x, b], []⟩) Q E s := by
  unfold Builtin.«object.__ne__»
  have key : ∀ k : Option Value → Sem Fin, (∀ (r : Bool) s', Q (.done (.ret (.bool (!r)))) s' → wpAny M A (k (some (.bool r))) Q E s') → wpAny M A (callSpecialIfBound? (.ref x) "__eq__" [b] >>= k) Q E s := fun k hk =>
    wpAny_bind (PySem.W.ifBound_K X I hs hf (wpAny_mono h (fun v s' ⟨r, e, q⟩ => by subst e; exact hk r s' q) fun _ _ e => e))
  repeat (first | with_reducible refine wpAny_cRoomFor hu ?_ | with_reducible refine key _ ?_ | wp_step)
  intro r s' q
  repeat (first | with_reducible refine wpAny_truthy_bool ?_ | wp_step)
  exact q
theorem call_objNe {Q : Value → Shared → Prop} (hu : A.units + 1 < cLine) (X : K.In s.heap) (I : PySem.W.InstAt s.heap x ox C od) (hm : PySem.W.mroIn K C (.type "object") = some true) (hs : PySem.W.findIn K (.ref C) "__eq__" = some (some (.ref f))) (hf : PySem.W.isFn K (.ref f) = true)
    (h : wpAny (model prog w) A.in1 (call (.ref f) [.ref x, b]) (fun v s' => ∃ r : Bool, v = .bool r ∧ Q (.bool (!r)) s') E s) :
    wpAny (model prog w) A (call (.builtin "object.__ne__") [.ref x, b]) Q E s :=
  wpAny_call (codeAny_call_builtin F.cmp_object.ne.plain F.cmpEntry_ne (PySem.W.check_slot F.cmpKind_ne F.cmpSplit_ne (I.type.andThen (PySem.W.looks_mroIn X hm)) (F.cmpArgs_ne _ _) (entry_ne (A := A.in1) hu X I hs hf h)))
theorem rc_ne {tb : Value} {Q : Value → Shared → Prop} (hu : A.units + 1 < cLine) (X : K.In s.heap) (I : PySem.W.InstAt s.heap x ox C od) (hb : PySem.W.Looks (model prog w) s.heap (typeOf b) tb) (hn : PySem.W.notFirst K C tb = true)
    (hm : PySem.W.mroIn K C (.type "object") = some true) (hne : PySem.W.findIn K (.ref C) "__ne__" = some (some (.builtin "object.__ne__"))) (hs : PySem.W.findIn K (.ref C) "__eq__" = some (some (.ref f))) (hf : PySem.W.isFn K (.ref f) = true)
    (h : wpAny (model prog w) A.in1 (call (.ref f) [.ref x, b]) (fun v s' => ∃ r : Bool, v = .bool r ∧ Q (.bool (!r)) s') E s) : wpAny (model prog w) A (richCompare .NotEq (.ref x) b) Q E s := by
  have one : wpAny (model prog w) A (tryCompare (.ref x) "__ne__" b) (fun r s' => ∃ v, r = some v ∧ Q v s') E s := by
    unfold tryCompare
    refine wpAny_bind (ifBound_objNe X I hne (call_objNe hu X I hm hs hf (wpAny_mono h (fun v s' hv => ?_) fun _ _ e => e)))
    obtain ⟨r, e, q⟩ := hv
    exact ⟨r, e, wpAny_pure ⟨_, rfl, q⟩⟩
  have hu0 : A.units < cLine := Nat.lt_of_succ_lt hu
  simp only [richCompare, cmpInfo_NotEq, oneThing_ref]
  refine wpAny_holding (wpAny_bind (wpAny_cRoomFor hu0 ?_))
  refine wpAny_bind (I.type.here (wpAny_bind (hb.here ?_)))
  split
  · rename_i q
    have e : PySem.W.subIn K tb (.ref C) = some false := by
      rcases Bool.or_eq_true_iff.mp hn with e | e
      · rw [beq_iff_eq.mp e] at q; simp at q
      · exact beq_iff_eq.mp e
    refine wpAny_bind ((PySem.W.looks_subIn X e).here ?_)
    simp only [Bool.false_eq_true, if_false]
    refine wpAny_bind (wpAny_mono one (fun r s' z => ?_) fun _ _ e => e)
    obtain ⟨v, rfl, hq⟩ := z
    exact wpAny_pure hq
  · refine wpAny_bind (wpAny_pure ?_)
    simp only [Bool.false_eq_true, if_false]
    refine wpAny_bind (wpAny_mono one (fun r s' z => ?_) fun _ _ e => e)
    obtain ⟨v, rfl, hq⟩ := z
    exact wpAny_pure hq
end
/-- x != y by the == of the class -/
def rNeOwnI (K : PySem.W.Frag) (C : Addr) (sp : Sp) (E : XK) : R2 := fun x y H Q => ∃ a dx fs tb, x = .ref a ∧ H a = some (.ins C dx fs) ∧ RTy K H y tb ∧ PySem.W.notFirst K C tb = true ∧ sp [x, y] H (fun z H' => ∃ r : Bool, z = .bl r ∧ Q (.bl (!r)) H') E
theorem op_neOwnI {X : Cx} {CX : CXT} {C g : Addr} {n : Nat} {sp : Sp} {E : XK} (hm : PySem.W.mroIn X.K C (.type "object") = some true) (hne : PySem.W.findIn X.K (.ref C) "__ne__" = some (some (.builtin "object.__ne__"))) (hs : PySem.W.findIn X.K (.ref C) "__eq__" = some (some (.ref g)))
    (hf : PySem.W.isFn X.K (.ref g) = true) (F : FnR X.prog X.w X.K X.mg X.base CX n g sp) (hr : Room (n + 1) X.A) (hx : Passes CX X E) : OpR X (compareOp .NotEq) (rNeOwnI X.K C sp E) := by
  intro pins s σ H x y v u Q I rx ry h
  obtain ⟨a, dx, fs, tb, rfl, ha, hy, hn, q⟩ := h
  cases (show v = Value.ref a from rx)
  obtain ⟨mA, J, _⟩ := ins_get I.hok ha
  obtain ⟨od, J, _⟩ := J.look
  have hl : PySem.W.Looks (model X.prog X.w) s.heap (typeOf u) tb := by
    cases hy with
    | @ins b C' dy gs hb =>
      cases (show u = Value.ref b from ry)
      obtain ⟨mB, J', _⟩ := ins_get I.hok hb
      obtain ⟨od', J', _⟩ := J'.look
      exact J'.type
    | blt t => exact looks_is (TyB.is I ry t)
  have hu := Nat.lt_of_le_of_lt (Nat.add_le_add_left (show 1 ≤ 64 by decide) _) hr.units
  show wpAny (model X.prog X.w) X.A (richCompare .NotEq (.ref a) u) _ _ _
  refine rc_ne hu I.kIn J hl hn hm hne hs hf ?_
  refine wpAny_mono (wpAny_call (SlX.run_at (us := [.ref a, u]) (ws := [.ref a, y]) F hr.in1 I.env0.in1 hx I (.cons rfl (.cons ry .nil)) q)) (fun w s' z => ?_) fun _ _ x => x
  obtain ⟨z', H', I', rz, r, ez, qz⟩ := z
  subst ez
  cases rz
  exact ⟨r, rfl, .bl (!r), H', I', rfl, qz⟩
end L2

/-! when machines are equal -/
namespace K52
open PySem L2 Evl OxK
/-- rows as data: tuples of tuples, lists of lists -/
def rowsT (rows : List (List Nat)) : PyData := .tuple (rows.map fun row => .tuple (row.map fun g : Nat => .int (g : Int)))
theorem eqv_row : ∀ a b : List Nat, PyData.eqvAll (a.map fun g : Nat => .int (g : Int)) (b.map fun g : Nat => .int (g : Int)) = decide (a = b)
  | [], [] => by simp [PyData.eqvAll]
  | [], _ :: _ => by simp [PyData.eqvAll]
  | _ :: _, [] => by simp [PyData.eqvAll]
  | x :: a, y :: b => by
    have ih := eqv_row a b
    simp only [List.map_cons, PyData.eqvAll, PyData.eqv, ih]
    rw [Bool.eq_iff_iff]
    simp
    intro _
    omega
theorem eqv_rows : ∀ a b : List (List Nat), PyData.eqvAll (a.map fun row => .tuple (row.map fun g : Nat => .int (g : Int))) (b.map fun row => .tuple (row.map fun g : Nat => .int (g : Int))) = decide (a = b)
  | [], [] => by simp [PyData.eqvAll]
  | [], _ :: _ => by simp [PyData.eqvAll]
  | _ :: _, [] => by simp [PyData.eqvAll]
  | x :: a, y :: b => by
    have ih := eqv_rows a b
    have ix := eqv_row x y
    simp only [List.map_cons, PyData.eqvAll, PyData.eqv, ih, ix]
    rw [Bool.eq_iff_iff]
    simp
theorem eqv_rowsT (a b : List (List Nat)) : PyData.eqv (rowsT a) (rowsT b) = decide (a = b) := by
  show PyData.eqv (.tuple _) (.tuple _) = _
  rw [PyData.eqv]
  exact eqv_rows a b
theorem lay_row : ∀ a : List Nat, PyData.canLayAll0 (a.map fun g : Nat => .int (g : Int)) = true ∧ PyData.depthAll (a.map fun g : Nat => .int (g : Int)) = 0
  | [] => by simp [PyData.canLayAll0, PyData.depthAll]
  | x :: a => by
    obtain ⟨h1, h2⟩ := lay_row a
    simp [PyData.canLayAll0, PyData.canLay0, PyData.depthAll, PyData.depth, h1, h2]
theorem lay_rows : ∀ a : List (List Nat), PyData.canLayAll0 (a.map fun row => .tuple (row.map fun g : Nat => .int (g : Int))) = true ∧ PyData.depthAll (a.map fun row => .tuple (row.map fun g : Nat => .int (g : Int))) ≤ 1
  | [] => by simp [PyData.canLayAll0, PyData.depthAll]
  | x :: a => by
    obtain ⟨h1, h2⟩ := lay_rows a
    obtain ⟨h3, h4⟩ := lay_row x
    refine ⟨?_, ?_⟩
    · simp only [List.map_cons, PyData.canLayAll0, PyData.canLay0, h1, h3]
      rfl
    · simp only [List.map_cons, PyData.depthAll, PyData.depth, h4]
      omega
theorem shaped_rowsT (a : List (List Nat)) : SeqAt.shaped (rowsT a) = true := by
  obtain ⟨h1, h2⟩ := lay_rows a
  unfold SeqAt.shaped rowsT
  simp only [PyData.canLay0, PyData.depth, h1]
  simp
  omega
theorem dp_row {K : PySem.W.Frag} {H : Hp} : ∀ row : List Nat, DpAll K H (row.map fun g : Nat => V.int (g : Int)) (row.map fun g : Nat => PyData.int (g : Int))
  | [] => .nil
  | g :: r => .cons (.int _) (dp_row r)
theorem dp_rows {K : PySem.W.Frag} {H : Hp} : ∀ (bs : List Addr) (rows : List (List Nat)), bs.length = rows.length → (∀ (i : Nat) (b : Addr) (row : List Nat), bs[i]? = some b → rows[i]? = some row → SqT K H b (row.map fun g : Nat => V.int (g : Int))) →
    DpAll K H (bs.map V.ref) (rows.map fun row => PyData.tuple (row.map fun g : Nat => PyData.int (g : Int)))
  | [], [], _, _ => .nil
  | [], _ :: _, h, _ => nomatch h
  | _ :: _, [], h, _ => nomatch h
  | b :: bs, row :: rows, h, k => .cons (.tup (k 0 b row rfl rfl) (dp_row row)) (dp_rows bs rows (Nat.succ.inj h) fun i b' row' h1 h2 => k (i + 1) b' row' h1 h2)
theorem dp_rws {K : PySem.W.Frag} {H : Hp} {r : Addr} {rows : List (List Nat)} (h : Rws K H r rows) : Dp K H (.ref r) (rowsT rows) := by
  obtain ⟨bs, hB, bl, hR⟩ := h
  exact .tup hB (dp_rows bs rows bl hR)
/-- what isinstance needs of the class -/
structure MIs (K : PySem.W.Frag) (C : Addr) : Prop where
  ty : ∀ (H : Hp) (a dx : Addr) (fs : List (Str × V)), H a = some (.ins C dx fs) → TyX K H (.ref a) (.ref C)
  cc : PySem.W.kitOne K (.ref C) (.ref C) = some true
/-- another machine; or a thing of another type -/
def spMeq (K : PySem.W.Frag) (C : Addr) : Sp := fun vs H Q _ => ∃ (s : Addr) (x : Str) (rows : List (List Nat)) (y : V), vs = [.ref s, y] ∧ IsM K C H s x rows ∧
  ((∃ (b : Addr) (x2 : Str) (rows2 : List (List Nat)), y = .ref b ∧ IsM K C H b x2 rows2 ∧ ∀ H', Ex H H' → Q (.bl (decide (x = x2) && decide (rows = rows2))) H') ∨
   (∃ t, TyX K H y t ∧ PySem.W.kitOne K t (.ref C) = some false ∧ ∀ H', Ex H H' → Q (.bl false) H'))
section
variable {P : Program} {w : World} {K : PySem.W.Frag} {mg : Str → Option Value} {base : Heap} {f C : Addr} {fd : FuncData}
end
end K52

/-! the law's draws of alphabets -/
namespace K52
open PySem L2 Evl OxK
/-- all but b stands, new things may have come -/
def ExB (b : Addr) (H H' : Hp) : Prop := ∀ c o, c ≠ b → H c = some o → H' c = some o
theorem Ex.exB {b : Addr} {H H' : Hp} (e : Ex H H') : ExB b H H' := fun c o _ h => e c o h
theorem But.exB {b : Addr} {H H' : Hp} (e : But b H H') : ExB b H H' := fun c o n h => by rw [e c n]; exact h
theorem ExB.trans {b : Addr} {H H1 H2 : Hp} (e : ExB b H H1) (e' : ExB b H1 H2) : ExB b H H2 := fun c o n h => e' c o n (e c o n h)
theorem bag_ex {H H' : Hp} {b l : Addr} {ns : List Int} (B : Bag H b l ns) (e : Ex H H') : Bag H' b l ns := by
  obtain ⟨n, hl, hn, i, j, s, hb, r⟩ := B
  exact ⟨n, e _ _ hl, hn, i, j, s, e _ _ hb, r⟩
def five5 : List Str := [Str.ofString "ab", Str.ofString "ab", Str.ofString "xz", Str.ofString "a", Str.ofString "bcd"]
def spSg : Sp := fun vs H Q _ => ∃ (b l : Addr) (ns : List Int), vs = [.ref b] ∧ Bag H b l ns ∧ ∀ (x : Str) (H' : Hp), x ∈ five5 → Bag H' b l ns → ExB b H H' → Q (.str x) H'
theorem alpha5 : ∀ x ∈ five5, AlphaOk x := by
  have key : ∀ x ∈ five5, 1 ≤ (sg x).length ∧ (sg x).length ≤ 3 ∧ (∀ c ∈ sg x, 97 ≤ c ∧ c ≤ 122) ∧ (sg x).Pairwise (· < ·) := by decide +kernel
  intro x hx
  obtain ⟨h1, h3, hl, hp⟩ := key x hx
  refine ⟨h1, h3, fun k a b p q => ?_, hl⟩
  obtain ⟨hk, e1⟩ := List.getElem?_eq_some_iff.mp p
  obtain ⟨hk2, e2⟩ := List.getElem?_eq_some_iff.mp q
  rw [← e1, ← e2]
  exact List.pairwise_iff_getElem.mp hp k (k + 1) hk hk2 (Nat.lt_succ_self k)
section
variable {P : Program} {w : World} {K : PySem.W.Frag} {mg : Str → Option Value} {base : Heap} {f : Addr} {fd : FuncData}
end
end K52

/-! models -/
namespace K52
open PySem L2 Evl OxK
/-- a model: the alphabet and the rows, a tuple of a text and a list of lists -/
def Mod (H : Hp) (m : Addr) (x : Str) (rows : List (List Nat)) : Prop := ∃ (L : Addr) (ls : List Addr), H m = some (.tup [.str x, .ref L]) ∧ H L = some (.lst (ls.map V.ref)) ∧ ls.length = rows.length ∧
  ∀ (i : Nat) (a : Addr) (row : List Nat), ls[i]? = some a → rows[i]? = some row → H a = some (.lst (rowV row))
theorem mod_ex {H H' : Hp} {m : Addr} {x : Str} {rows : List (List Nat)} (h : Mod H m x rows) (e : Ex H H') : Mod H' m x rows := by
  obtain ⟨L, ls, hm, hL, ll, hls⟩ := h
  exact ⟨L, ls, e _ _ hm, e _ _ hL, ll, fun i a row h1 h2 => e _ _ (hls i a row h1 h2)⟩
end K52

/-! a letter drawn from a text -/
namespace K52
open PySem L2 Evl OxK
def spOfS : Sp := fun vs H Q _ => ∃ (b l : Addr) (ns : List Int) (x : Str), vs = [.ref b, .str x] ∧ 0 < x.length ∧ x.length < 1000 ∧ Bag H b l ns ∧
  ∀ (k : Nat) (c : Nat) (H' : Hp), (sg x)[k]? = some c → Bag H' b l ns → But b H H' → Q (.str ⟨#[c]⟩) H'
section
variable {P : Program} {w : World} {K : PySem.W.Frag} {mg : Str → Option Value} {base : Heap} {f : Addr} {fd : FuncData}
theorem ok_ofS {fP : Addr} {fdP : FuncData} (F : FnP K "_law_of" sOf f fd) (FP : FnP K "_law_pull" sPull fP fdP) (gP : mg "_law_pull" = some (.ref fP)) (gL : mg "len" = none) (gI : mg "int" = none) :
    FnOk P w K mg base CX0 2 f fd ["_law_bag_here", "_law_things"] spOfS := by
  have GP : FnOk P w K mg base CX0 1 fP fdP ["_law_bag_here", "_law_amount"] spPull := ok_pull FP gL gI
  have bP : Binds K fdP ["_law_bag_here", "_law_amount"] [] := FP.bindsN fun _ _ _ _ _ _ us hl => match us, hl with | [_, _], _ => rfl
  refine F.ok scO (fun vs H Q E h => ?_) (fun cdv A outer s H vs Q E hr h => ?_)
  · obtain ⟨b, l, ns, x, rfl, _⟩ := h
    rfl
  · obtain ⟨b, l, ns, x, rfl, h0, h1, hB, k⟩ := h
    refine ⟨_, PSs.nox (pss_one (ps_ret (pe_ix ix_str (pv 1) (pe_call GP hr rfl gP FP.kp bP .nil pass0 (pa_cons (pv 0) (pa_cons (pe_callB call_len_str (by rfl) gL PySem.boot_len (pa_cons (pv 1) pa_nil)) pa_nil))) (fun _ _ => rfl)))), ?_⟩
    have hS : x.length ≤ sizeLine := Nat.le_of_lt (small1000 (by omega))
    have hl : x.length = (sg x).length := by simp [Str.length, sg]
    refine ⟨_, rfl, _, rfl, _, rfl, x, rfl, hS, b, l, ns, _, rfl, by omega, by omega, hB, fun r H' r0 r1 hB' hk => ?_⟩
    obtain ⟨n, rfl⟩ : ∃ n : Nat, r = (n : Int) := ⟨r.toNat, by omega⟩
    have hn : n < (sg x).length := by omega
    exact ⟨x, (n : Int), (sg x)[n], rfl, rfl, hS, atI_nat (List.getElem?_eq_getElem hn), k n _ H' (List.getElem?_eq_getElem hn) hB' hk⟩
end
end K52

/-! a drawn model -/
namespace K52
open PySem L2 Evl OxK
def spDr : Sp := fun vs H Q _ => ∃ (b l : Addr) (ns : List Int) (x : Str) (n : Nat), vs = [.ref b, .str x, .int (n : Int)] ∧ 1 ≤ n ∧ n ≤ 24 ∧ x.length < 1000 ∧ Bag H b l ns ∧
  ∀ (m : Addr) (rows : List (List Nat)) (H' : Hp), rows.length = n → (∀ row ∈ rows, row.length = (sg x).length ∧ ∀ g ∈ row, g < n) → Mod H' m x rows → Bag H' b l ns → ExB b H H' → Q (.ref m) H'
section
variable {P : Program} {w : World} {K : PySem.W.Frag} {mg : Str → Option Value} {base : Heap} {f : Addr} {fd : FuncData}
end
end K52

/-! a model by one of four ways -/
namespace K52
open PySem L2 Evl OxK
/-- what a drawn model is -/
def TblK (b l : Addr) (ns : List Int) (x : Str) (n : Nat) (H : Hp) (Q : VK) : Prop :=
  ∀ (m : Addr) (rows : List (List Nat)) (H' : Hp), rows.length = n → (∀ row ∈ rows, row.length = (sg x).length ∧ ∀ g ∈ row, g < n) → Mod H' m x rows → Bag H' b l ns → ExB b H H' → Q (.ref m) H'
theorem modN (z : Int) (n : Nat) (h : 1 ≤ n) : ∃ g : Nat, z % (n : Int) = (g : Int) ∧ g < n := by
  have h0 := Int.emod_nonneg z (show (n : Int) ≠ 0 by omega)
  have h1 := Int.emod_lt_of_pos z (show (0 : Int) < (n : Int) by omega)
  generalize z % (n : Int) = y at h0 h1
  exact ⟨y.toNat, by omega, by omega⟩
theorem tbl {te : TE} {b l : Addr} {ns : List Int} {x : Str} {n : Nat} {H : Hp} {Q : VK} {a3 a4 : Option V} (n24 : n ≤ 24) (x1 : x.length < 1000) (hB : Bag H b l ns)
    (item : ∀ (i c : Nat) (z : Int) (H' : Hp) (Q' : VK), i < n → z = (i : Int) → c ∈ sg x → Bag H' b l ns → (∀ (g : Nat) (H'' : Hp), g < n → Bag H'' b l ns → But b H' H'' → Q' (.int (g : Int)) H'') →
      te [some (.ref b), some (.str x), some (.int (n : Int)), a3, a4, some (.int z), some (.str ⟨#[c]⟩)] H' Q')
    (k : TblK b l ns x n H Q) :
    tTup (tCons (tVar 1) (tCons (tLc (iRng1 (tCons (tVar 2) tNil)) (gName 5) tYes (tLc (iStr (tVar 1)) (gName 6) tYes te [6]) [5]) tNil)) [some (.ref b), some (.str x), some (.int (n : Int)), a3, a4, none, none] H Q := by
  have hxl : x.length = (sg x).length := by simp [Str.length, sg]
  have hxc : x.cps.size = (sg x).length := by simp [sg]
  refine ⟨_, rfl, _, rfl, (n : Int), rfl, (by show -(2 ^ 62 : Int) ≤ (n : Int); omega), (by show (n : Int) < 2 ^ 62; omega), fun D hD => ?_⟩
  have bD : b ≠ D := by
    obtain ⟨_, _, _, i, j, s, hb, _⟩ := hB
    exact ne_of_none hb hD
  refine lc_any (J := Itr 0 (n : Int).toNat) (n := n) (fun i H' => ∃ (rows : List (List Nat)) (ls : List Addr), rows.length = i ∧ ls.length = i ∧ H' D = some (.lst (ls.map V.ref)) ∧ (∀ row ∈ rows, row.length = (sg x).length ∧ ∀ g ∈ row, g < n) ∧
      (∀ (j : Nat) (a : Addr) (row : List Nat), ls[j]? = some a → rows[j]? = some row → H' a = some (.lst (rowV row)) ∧ a ≠ D ∧ a ≠ b) ∧ Bag H' b l ns ∧ ExB b H H')
    ⟨[], [], rfl, rfl, upd_same, (fun _ h => nomatch h), (fun j a row h => nomatch h), bag_ex hB (Ex.new hD), Ex.exB (Ex.new hD)⟩ (fun i H' hi _ => (show i < (n : Int).toNat by omega)) (fun H' _ => (show (n : Int).toNat ≤ n by omega)) ?_ ?_
  · rintro i H4 y H5 hi ⟨rows, ls, rl, ll, hDl, hrow, hls, hB4, e4⟩ ⟨rfl, rfl⟩
    refine ⟨rfl, tt_yes ⟨_, rfl, x, rfl, fun D2 hD2 => ?_⟩⟩
    have b2 : b ≠ D2 := by
      obtain ⟨_, _, _, i, j, s, hb, _⟩ := hB4
      exact ne_of_none hb hD2
    refine lc_any (J := Its x) (n := (sg x).length) (fun k H' => ∃ row : List Nat, row.length = k ∧ (∀ g ∈ row, g < n) ∧ H' D2 = some (.lst (rowV row)) ∧ Bag H' b l ns ∧ ExB b H5 H')
      ⟨[], rfl, (fun _ h => nomatch h), upd_same, bag_ex hB4 (Ex.new hD2), Ex.exB (Ex.new hD2)⟩ (fun k H' hk _ => (show k < x.cps.size by omega)) (fun H' _ => (show x.cps.size ≤ (sg x).length by omega)) ?_ ?_
    · rintro k2 H6 y2 H7 hk2 ⟨row, rl2, hg, hD6, hB6, e6⟩ ⟨rfl, c, hc, rfl⟩
      refine ⟨rfl, tt_yes ?_⟩
      have cm : c ∈ sg x := by
        have z : (sg x)[k2]? = some c := by simpa [sg] using hc
        exact List.mem_of_getElem? z
      refine item i c _ _ _ hi (Int.zero_add _) cm hB6 fun g H8 gn hB8 h8 => ?_
      have hD8 : H8 D2 = some (.lst (rowV row)) := by rw [h8 D2 b2.symm]; exact hD6
      refine ⟨_, hD8, small1000 (by simp [rowV]; omega), row ++ [g], by simp [rl2], fun g2 h2 => ?_, ?_, ?_, ?_⟩
      · rcases List.mem_append.mp h2 with q | q
        · exact hg g2 q
        · simp at q; omega
      · rw [upd_same]; simp [rowV]
      · obtain ⟨q1, q2, q3, i', j', s', q4, q5⟩ := hB8
        have nl : l ≠ D2 := by
          intro z
          obtain ⟨_, p2, _⟩ := hB4
          rw [z, hD2] at p2
          cases p2
        exact ⟨q1, by rw [upd_ne nl]; exact q2, q3, i', j', s', by rw [upd_ne b2]; exact q4, q5⟩
      · intro c2 o2 nc hc2
        have ncD : c2 ≠ D2 := ne_of_none hc2 hD2
        rw [upd_ne ncD, h8 c2 nc]
        exact e6 c2 o2 nc hc2
    · rintro H6 ⟨row, rl2, hg, hD6, hB6, e6⟩
      have nDD : D ≠ D2 := ne_of_none hDl hD2
      have hD6' := e6 D _ bD.symm hDl
      refine ⟨_, hD6', small1000 (by rw [List.length_map]; omega), rows ++ [row], ls ++ [D2], by simp [rl], by simp [ll], ?_, ?_, ?_, ?_, ?_⟩
      · rw [upd_same, List.map_append]; rfl
      · intro row2 h2
        rcases List.mem_append.mp h2 with q | q
        · exact hrow row2 q
        · simp at q; subst q; exact ⟨rl2, hg⟩
      · intro j a row2 hj hr2
        by_cases q : j < ls.length
        · rw [List.getElem?_append_left q] at hj
          rw [List.getElem?_append_left (by omega)] at hr2
          obtain ⟨w1, w2, w3⟩ := hls j a row2 hj hr2
          exact ⟨by rw [upd_ne w2]; exact e6 a _ w3 w1, w2, w3⟩
        · rw [List.getElem?_append_right (by omega)] at hj hr2
          have q2 : j = ls.length := by
            have := (List.getElem?_eq_some_iff.mp hj).1
            simp at this
            omega
          subst q2
          have q3 : ls.length - rows.length = 0 := by omega
          rw [q3] at hr2
          simp at hj hr2
          subst hj hr2
          exact ⟨by rw [upd_ne nDD.symm]; exact hD6, nDD.symm, b2.symm⟩
      · obtain ⟨q1, q2, q3, i', j', s', q4, q5⟩ := hB6
        have nl : l ≠ D := by
          intro z
          obtain ⟨_, p2, _⟩ := hB
          rw [z, hD] at p2
          cases p2
        exact ⟨q1, by rw [upd_ne nl]; exact q2, q3, i', j', s', by rw [upd_ne bD]; exact q4, q5⟩
      · intro c2 o2 nc hc2
        have ncD : c2 ≠ D := ne_of_none hc2 hD
        rw [upd_ne ncD]
        exact e6 c2 o2 nc (e4 c2 o2 nc hc2)
  · rintro H4 ⟨rows, ls, rl, ll, hDl, hrow, hls, hB4, e4⟩
    refine ⟨(by show 2 ≤ sizeLine; decide), fun p hp => ?_⟩
    have ep : Ex H4 (upd H4 p (.tup [.str x, .ref D])) := Ex.new hp
    exact k p rows _ rl hrow ⟨D, ls, upd_same, ep _ _ hDl, by omega, fun j a row h1 h2 => ep _ _ (hls j a row h1 h2).1⟩ (bag_ex hB4 ep) (e4.trans (Ex.exB ep))
def spLm : Sp := fun vs H Q _ => ∃ (b l : Addr) (ns : List Int) (x : Str) (n : Nat), vs = [.ref b, .str x, .int (n : Int)] ∧ 1 ≤ n ∧ n ≤ 24 ∧ x ∈ five5 ∧ Bag H b l ns ∧ TblK b l ns x n H Q
section
variable {P : Program} {w : World} {K : PySem.W.Frag} {mg : Str → Option Value} {base : Heap} {f : Addr} {fd : FuncData}
end
end K52

/-! repr of an instance whose class has its own __repr__ -/
namespace L2
open PySem PySem.Spec PyProof.Rows Evl
section
variable {prog : Program} {w : World} {A : Around} {E : Value → Shared → Prop} {s : Shared} {K : PySem.W.Frag} {x C f : Addr} {ox : Obj} {od : Option Obj}
theorem repr_own {Q : Value → Shared → Prop} (hu : A.units + 1 < cLine) (X : K.In s.heap) (I : PySem.W.InstAt s.heap x ox C od) (hr : PySem.W.findIn K (.ref C) "__repr__" = some (some (.ref f))) (hf : PySem.W.isFn K (.ref f) = true)
    (h : wpAny (model prog w) A.in1 (call (.ref f) [.ref x]) (fun r s' => ∃ y t, r = .str y t ∧ Q r s') E s) : wpAny (model prog w) A (call (.builtin "repr") [.ref x]) Q E s := by
  refine Calls.call_function_entry F.kind_repr F.plain_repr F.entry_repr (F.args_repr1 _) ?_
  unfold Builtin.«repr»
  refine wpAny_bind (m := oneArg "repr" _) (wpAny_pure ?_)
  refine wpAny_bind (m := cRoomFor _ _) (wpAny_cRoomFor (by show A.units + 1 < cLine; exact hu) ?_)
  refine wpAny_bind (wpAny_bind (I.type.here ((PySem.W.looks_findIn X hr).here ?_)))
  refine wpAny_bind (m := callSpecialIfBound? (.ref x) (Str.ofString "__repr__") _) (PySem.W.ifBound_K X I hr hf (wpAny_mono h (fun r s' hv => ?_) fun _ _ e => e))
  obtain ⟨y, t, rfl, q⟩ := hv
  refine wpAny_bind (wpAny_isInstance (T := "str") (b := true) rfl isSubtype_str_str ?_)
  exact wpAny_pure ⟨_, rfl, q⟩
end
def rReprI (C : Addr) (sp : Sp) (E : XK) : List V → Hp → VK → Prop := fun xs H Q => ∃ a dx fs, xs = [.ref a] ∧ H a = some (.ins C dx fs) ∧ sp [.ref a] H (fun z H' => ∃ y, z = .str y ∧ Q z H') E
theorem call_reprI {X : Cx} {CX : CXT} {C g : Addr} {n : Nat} {sp : Sp} {E : XK} (hs : PySem.W.findIn X.K (.ref C) "__repr__" = some (some (.ref g))) (hf : PySem.W.isFn X.K (.ref g) = true) (F : FnR X.prog X.w X.K X.mg X.base CX n g sp) (hr : Room (n + 1) X.A) (hx : Passes CX X E) :
    CallR X (.builtin "repr") (rReprI C sp E) := by
  intro pins s σ H xs us Q I r h
  obtain ⟨a, dx, fs, rfl, ha, q⟩ := h
  obtain ⟨u, rfl, ru⟩ := vals1 r
  cases (show u = Value.ref a from ru)
  obtain ⟨mA, J, _⟩ := ins_get I.hok ha
  obtain ⟨od, J, _⟩ := J.look
  have hu := Nat.lt_of_le_of_lt (Nat.add_le_add_left (show 1 ≤ 64 by decide) _) hr.units
  refine repr_own hu I.kIn J hs hf ?_
  refine wpAny_mono (wpAny_call (SlX.run_at (us := [.ref a]) (ws := [.ref a]) F hr.in1 I.env0.in1 hx I (.cons rfl .nil) q)) (fun w s' z => ?_) fun _ _ x => x
  obtain ⟨z', H', I', rz, y, ez, qz⟩ := z
  subst ez
  obtain ⟨t, rfl⟩ := rz
  exact ⟨y, t, rfl, .str y, H', I', ⟨t, rfl⟩, qz⟩
end L2

/-! len of an instance whose class has its own __len__ -/
namespace L2
open PySem PySem.Spec PyProof.Rows Evl
def rLenI (C : Addr) (sp : Sp) (E : XK) : List V → Hp → VK → Prop := fun xs H Q => ∃ a dx fs, xs = [.ref a] ∧ H a = some (.ins C dx fs) ∧ sp [.ref a] H (fun z H' => ∃ n : Nat, z = .int (n : Int) ∧ n ≤ 1000 ∧ Q z H') E
theorem call_lenI {X : Cx} {CX : CXT} {C g : Addr} {n : Nat} {sp : Sp} {E : XK} (hs : PySem.W.findIn X.K (.ref C) "__len__" = some (some (.ref g))) (hf : PySem.W.isFn X.K (.ref g) = true) (F : FnR X.prog X.w X.K X.mg X.base CX n g sp) (hr : Room (n + 1) X.A) (hx : Passes CX X E) :
    CallR X (.builtin "len") (rLenI C sp E) := by
  intro pins s σ H xs us Q I r h
  obtain ⟨a, dx, fs, rfl, ha, q⟩ := h
  obtain ⟨u, rfl, ru⟩ := vals1 r
  cases (show u = Value.ref a from ru)
  obtain ⟨mA, J, _⟩ := ins_get I.hok ha
  obtain ⟨od, J, _⟩ := J.look
  obtain ⟨m, hF⟩ := I.fr
  refine PySem.W.len_K hF I.ok.mod.kin J hs hf ?_
  refine wpAny_mono (wpAny_call (SlX.run_at (us := [.ref a]) (ws := [.ref a]) F hr.in1 I.env0.in1 hx I (.cons rfl .nil) q)) (fun w s' z => ?_) fun _ _ x => x
  obtain ⟨z', H', I', rz, k, ez, hk, qz⟩ := z
  subst ez
  obtain ⟨t, rfl⟩ := rz
  refine ⟨⟨by omega, by omega⟩, ?_⟩
  exact ⟨.int k, H', I'.tok _, ⟨_, rfl⟩, qz⟩
end L2

/-! new rows, new machines -/
namespace K52
open PySem L2 Evl OxK
def EvN (mk : List V → HO) (te : TE) (σ : L2.St) (H : Hp) (xs : List V) : Prop := ∀ H1, Ex H H1 → ∀ Q : VK, (∀ p H2, H1 p = none → Ex H1 H2 → H2 p = some (mk xs) → Q (.ref p) H2) → te σ H1 Q
/-- a new list of new things -/
structure NewR (mk : List V → HO) (H1 H2 : Hp) (D : Addr) (bs : List Addr) (out : List (List Nat)) : Prop where
  new : H1 D = none
  ex : Ex H1 H2
  len : bs.length = out.length
  at_ : H2 D = some (.lst (bs.map V.ref))
  it : ∀ (j : Nat) (b : Addr) (row : List Nat), bs[j]? = some b → out[j]? = some row → H1 b = none ∧ b ≠ D ∧ H2 b = some (mk (rowV row))
def EvRows (mk : List V → HO) (te : TE) (σ : L2.St) (H : Hp) (out : List (List Nat)) : Prop := ∀ H1, Ex H H1 → ∀ Q : VK, (∀ D bs H2, NewR mk H1 H2 D bs out → Q (.ref D) H2) → te σ H1 Q
theorem lc_new {K : PySem.W.Frag} {mk : List V → HO} {tl te : TE} {σ : L2.St} {H : Hp} {j : Nat} {vs : List Nat} {L : Addr} {xs : List V} (out : List (List Nat)) (ht : Ev tl σ H (.ref L)) (hL : SqL K H L xs) (len : out.length = xs.length) (few : xs.length ≤ 100)
    (hw : ∀ x, wipe ((wipe σ vs).set j (some x)) vs = wipe σ vs)
    (it : ∀ (i : Nat) (x : V) (row : List Nat) (H1 : Hp), Ex H H1 → xs[i]? = some x → out[i]? = some row → EvN mk te ((wipe σ vs).set j (some x)) H1 (rowV row)) :
    EvRows mk (tLc (iList K tl) (gName j) tYes te vs) σ H out := by
  intro H0 e0 Q q
  refine ht H0 e0 _ fun H1 e1 => ⟨L, rfl, ⟨xs, ex_l (e0.trans e1) hL⟩, fun D hD => ?_⟩
  have wk := wk_l (ex_l (e0.trans e1) hL)
  refine lc_any (J := Itl K L) (n := xs.length) (fun i H' => Ex H1 H' ∧ ∃ ls : List Addr, ls.length = i ∧ H' D = some (.lst (ls.map V.ref)) ∧ ∀ (j : Nat) (b : Addr) (row : List Nat), ls[j]? = some b → out[j]? = some row → H1 b = none ∧ b ≠ D ∧ H' b = some (mk (rowV row)))
    ⟨Ex.new hD, [], rfl, upd_same, fun j b row h => nomatch h⟩ (fun i H' hi p => wk.go i H' p.1 hi) (fun H' p => wk.stop H' p.1) ?_ ?_
  · rintro i H4 y H5 hi ⟨e4, ls, ll, hDl, hls⟩ yl
    obtain ⟨rfl, hz⟩ := wk.yld i H4 y H5 e4 hi yl
    obtain ⟨row, hrow⟩ : ∃ row, out[i]? = some row := ⟨_, List.getElem?_eq_getElem (by omega)⟩
    refine ⟨hw y, tt_yes ?_⟩
    refine it i y row _ ((e0.trans e1).trans e4) hz hrow _ (Ex.refl _) _ fun p H6 hp e6 h6 => ?_
    have nlD : p ≠ D := fun z => by
      rw [z, hDl] at hp
      cases hp
    refine ⟨_, e6 _ _ hDl, small1000 (by rw [List.length_map]; omega), Ex.mut (e4.trans e6) hD, ls ++ [p], by simp [ll], ?_, ?_⟩
    · rw [upd_same, List.map_append]; rfl
    · intro j b row2 hj hr2
      by_cases q : j < ls.length
      · rw [List.getElem?_append_left q] at hj
        obtain ⟨h1, h2, h3⟩ := hls j b row2 hj hr2
        exact ⟨h1, h2, by rw [upd_ne h2]; exact e6 _ _ h3⟩
      · rw [List.getElem?_append_right (by omega)] at hj
        have q2 : j = ls.length := by
          have := (List.getElem?_eq_some_iff.mp hj).1
          simp at this
          omega
        subst q2
        simp at hj
        subst hj
        rw [ll, hrow] at hr2
        cases hr2
        exact ⟨fresh_back e4 hp, nlD, by rw [upd_ne nlD]; exact h6⟩
  · rintro H4 ⟨e4, ls, ll, hDl, hls⟩
    exact q D ls H4 ⟨fresh_back e1 hD, e1.trans e4, by omega, hDl, fun j b row h1 h2 => ⟨fresh_back e1 (hls j b row h1 h2).1, (hls j b row h1 h2).2⟩⟩
/-- list(x), tuple(x) of a list -/
theorem en_list {K : PySem.W.Frag} {ta : TE} {σ : L2.St} {H : Hp} {p : Addr} {xs : List V} (h : Ev ta σ H (.ref p)) (hx : SqL K H p xs ∨ SqT K H p xs) : EvN .lst (tCB (rListOf K) (tCons ta tNil)) σ H xs := fun H1 e1 Q q =>
  h H1 e1 _ fun H2 e2 => ⟨p, xs, rfl, hx.imp (ex_l (e1.trans e2)) (ex_t (e1.trans e2)), fun l hl => q l _ (fresh_back e2 hl) (e2.trans (Ex.new hl)) upd_same⟩
theorem en_tup {K : PySem.W.Frag} {ta : TE} {σ : L2.St} {H : Hp} {p : Addr} {xs : List V} (h : Ev ta σ H (.ref p)) (hx : SqL K H p xs) : EvN .tup (tCB (rTupOf K) (tCons ta tNil)) σ H xs := fun H1 e1 Q q =>
  h H1 e1 _ fun H2 e2 => ⟨p, xs, rfl, .inl ⟨ex_l (e1.trans e2) hx, fun l hl => q l _ (fresh_back e2 hl) (e2.trans (Ex.new hl)) upd_same⟩⟩
/-- what can be moves -/
def EvMv (K : PySem.W.Frag) (te : TE) (σ : L2.St) (H : Hp) (rows : List (List Nat)) : Prop := ∀ H1, Ex H H1 → ∀ Q : VK, (∀ m H2, Ex H1 H2 → Mvs K H2 m rows → Q (.ref m) H2) → te σ H1 Q
theorem NewR.mvs {K : PySem.W.Frag} {H1 H2 : Hp} {D : Addr} {bs : List Addr} {out : List (List Nat)} (n : NewR .lst H1 H2 D bs out) : Mvs K H2 D out := ⟨bs, .inl n.at_, n.len, fun i a row h1 h2 => .inl (n.it i a row h1 h2).2.2⟩
theorem mv_rows {K : PySem.W.Frag} {te : TE} {σ : L2.St} {H : Hp} {rows : List (List Nat)} (h : EvRows .lst te σ H rows) : EvMv K te σ H rows := fun H1 e1 Q q => h H1 e1 _ fun D bs H2 n => q D H2 n.ex n.mvs
theorem Mvs.up {K : PySem.W.Frag} {H H' : Hp} {m : Addr} {rows : List (List Nat)} (h : Mvs K H m rows) (e : Ex H H') : Mvs K H' m rows := by
  obtain ⟨as, h1, h2, h3⟩ := h
  exact ⟨as, h1.imp (e _ _) (e _ _), h2, fun i a row q1 q2 => (h3 i a row q1 q2).imp (e _ _) (e _ _)⟩
theorem mv_var {K : PySem.W.Frag} {te : TE} {σ : L2.St} {H : Hp} {m : Addr} {rows : List (List Nat)} (h : Ev te σ H (.ref m)) (mv : Mvs K H m rows) : EvMv K te σ H rows := fun H1 e1 Q q => h H1 e1 _ fun H2 e2 => q m H2 e2 (mv.up (e1.trans e2))
theorem mv_tup {K : PySem.W.Frag} {te : TE} {σ : L2.St} {H : Hp} {rows : List (List Nat)} (h : EvRows .tup te σ H rows) : EvMv K (tCB (rTupOf K) (tCons te tNil)) σ H rows := fun H1 e1 Q q => h H1 e1 _ fun D bs H2 n =>
  ⟨D, bs.map V.ref, rfl, .inl ⟨SqL.of n.at_, fun l hl => q l _ (n.ex.trans (Ex.new hl)) ⟨bs, .inr upd_same, n.len, fun i a row h1 h2 => .inr ((Ex.new hl) _ _ (n.it i a row h1 h2).2.2)⟩⟩⟩
theorem sqt_ex {K : PySem.W.Frag} {C : Addr} {H H' : Hp} {s : Addr} {x : Str} {rows : List (List Nat)} (h : IsM K C H s x rows) (e : Ex H H') : IsM K C H' s x rows := by
  obtain ⟨dx, r, d, hs, ⟨bs, hB, bl, hR⟩, hd⟩ := h
  exact ⟨dx, r, d, e _ _ hs, ⟨bs, ex_t e hB, bl, fun i b row h1 h2 => ex_t e (hR i b row h1 h2)⟩, e _ _ hd⟩
theorem rd_mut {H : Hp} {D b : Addr} {ys xs : List V} {o : HO} (hD : H D = some (.lst ys)) (h : Rd H b (.tup xs)) : Rd (upd H D o) b (.tup xs) := by
  rcases h with h | ⟨u, h⟩
  · exact .inl (by rw [upd_ne (fun z => by rw [z, hD] at h; cases h)]; exact h)
  · exact .inr ⟨u, by rw [upd_ne (fun z => by rw [z, hD] at h; cases h)]; exact h⟩
theorem sqt_mut {K : PySem.W.Frag} {H : Hp} {D b : Addr} {ys xs : List V} {o : HO} (hD : H D = some (.lst ys)) (h : SqT K H b xs) : SqT K (upd H D o) b xs := h.imp (rd_mut hD) id
/-- a machine has no lists -/
theorem ism_mut {K : PySem.W.Frag} {C : Addr} {H : Hp} {s D : Addr} {x : Str} {rows : List (List Nat)} {ys : List V} {o : HO} (h : IsM K C H s x rows) (hD : H D = some (.lst ys)) : IsM K C (upd H D o) s x rows := by
  obtain ⟨dx, r, d, hs, ⟨bs, hB, bl, hR⟩, hd⟩ := h
  exact ⟨dx, r, d, by rw [upd_ne (fun z => by rw [z, hD] at hs; cases hs)]; exact hs, ⟨bs, sqt_mut hD hB, bl, fun i b row h1 h2 => sqt_mut hD (hR i b row h1 h2)⟩, by rw [upd_ne (fun z => by rw [z, hD] at hd; cases hd)]; exact hd⟩
/-- a new machine -/
theorem mk_new {K : PySem.W.Frag} {C : Addr} {ta tb : TE} {σ : L2.St} {H : Hp} {x : Str} {rows : List (List Nat)} (ax : AlphaOk x) (ro : RowsOk x rows) (ha : Ev ta σ H (.str x)) (hb : EvMv K tb σ H rows) :
    ∀ H1, Ex H H1 → ∀ Q : VK, (∀ s H2, H1 s = none → Ex H1 H2 → IsM K C H2 s x rows → Q (.ref s) H2) → tMake C (spMi K C) [] E0 (tCons ta (tCons tb tNil)) σ H1 Q := by
  intro H1 e1 Q q
  refine ha H1 e1 _ fun H2 e2 => hb H2 (e1.trans e2) _ fun m H3 e3 mv => ?_
  intro s dx hs hdx nds
  refine ⟨s, x, m, rows, H3, dx, rfl, ax, ro, mv, (Ex.new hdx).trans (Ex.new (by rw [upd_ne nds.symm]; exact hs)), hs, upd_same, fun H' r d e' hr hd h1 h2 h3 => ⟨rfl, ?_⟩⟩
  exact q s H' (fresh_back (e2.trans e3) hs) ((e2.trans e3).trans e') ⟨dx, r, d, h1, h2, h3⟩
/-- the same by keywords, moves first -/
theorem mk_newN {K : PySem.W.Frag} {C : Addr} {ta tb : TE} {σ : L2.St} {H : Hp} {x : Str} {rows : List (List Nat)} {gV : List V → List V → List V} (hg : ∀ s a b, gV [s] [b, a] = [s, a, b]) (ax : AlphaOk x) (ro : RowsOk x rows) (ha : Ev ta σ H (.str x)) (hb : EvMv K tb σ H rows) :
    ∀ H1, Ex H H1 → ∀ Q : VK, (∀ s H2, H1 s = none → Ex H1 H2 → IsM K C H2 s x rows → Q (.ref s) H2) → tMakeK C 0 2 (spMi K C) gV E0 tNil (tCons tb (tCons ta tNil)) σ H1 Q := by
  intro H1 e1 Q q
  refine hb H1 e1 _ fun m H2 e2 mv => ha H2 (e1.trans e2) _ fun H3 e3 => ⟨rfl, rfl, ?_⟩
  intro s dx hs hdx nds
  refine ⟨s, x, m, rows, H3, dx, hg _ _ _, ax, ro, mv.up e3, (Ex.new hdx).trans (Ex.new (by rw [upd_ne nds.symm]; exact hs)), hs, upd_same, fun H' r d e' hr hd h1 h2 h3 => ⟨rfl, ?_⟩⟩
  exact q s H' (fresh_back (e2.trans e3) hs) ((e2.trans e3).trans e') ⟨dx, r, d, h1, h2, h3⟩
/-! ### rows as data -/
def rowD (row : List Nat) : Dt := .l (row.map fun g : Nat => .f (.int (g : Int)))
def rowsD (rows : List (List Nat)) : Dt := .l (rows.map rowD)
theorem has_ints {H : Hp} {a : Addr} {zs : List Int} (h : H a = some (.lst (zs.map V.int))) (few : zs.length ≤ 1000) : Has H 1 (.ref a) (.l (zs.map fun z => .f (.int z))) := by
  refine .inr ⟨a, zs.map V.int, zs.map (fun z => .f (.int z)), rfl, .inl ⟨h, rfl⟩, by simp, by simpa using few, fun i x y h1 h2 => ?_⟩
  rw [List.getElem?_map] at h1 h2
  cases e : zs[i]? with
  | none => rw [e] at h1; cases h1
  | some z =>
    rw [e] at h1 h2
    cases h1
    cases h2
    exact ⟨True.intro, rfl⟩
theorem rowV_ints (row : List Nat) : rowV row = (row.map fun g : Nat => (g : Int)).map V.int := by simp [rowV, List.map_map, Function.comp_def]
theorem has_row {H : Hp} {a : Addr} {row : List Nat} (h : H a = some (.lst (rowV row))) (few : row.length ≤ 1000) : Has H 1 (.ref a) (rowD row) := by
  have z := has_ints (H := H) (a := a) (zs := row.map fun g : Nat => (g : Int)) (by rw [← rowV_ints]; exact h) (by simpa using few)
  rw [List.map_map] at z
  exact z
theorem has_rows {H : Hp} {D : Addr} {bs : List Addr} {rows : List (List Nat)} (h : H D = some (.lst (bs.map V.ref))) (len : bs.length = rows.length) (few : rows.length ≤ 1000) (wide : ∀ row ∈ rows, row.length ≤ 1000) (it : ∀ (j : Nat) (b : Addr) (row : List Nat), bs[j]? = some b → rows[j]? = some row → H b = some (.lst (rowV row))) :
    Has H 2 (.ref D) (rowsD rows) := by
  refine .inr ⟨D, bs.map V.ref, rows.map rowD, rfl, .inl ⟨h, rfl⟩, by simp [len], by simp; omega, fun i x y h1 h2 => ?_⟩
  rw [List.getElem?_map] at h1 h2
  cases e : bs[i]? with
  | none => rw [e] at h1; cases h1
  | some b =>
    cases e2 : rows[i]? with
    | none => rw [e2] at h2; cases h2
    | some row =>
      rw [e] at h1
      rw [e2] at h2
      cases h1
      cases h2
      exact has_row (it i b row e e2) (wide row (List.mem_of_getElem? e2))
theorem has_mod {H : Hp} {m : Addr} {x : Str} {rows : List (List Nat)} (h : Mod H m x rows) (few : rows.length ≤ 1000) (wide : ∀ row ∈ rows, row.length ≤ 1000) : ∃ (L : Addr) (xs : List V), H m = some (.tup [.str x, .ref L]) ∧ H L = some (.lst xs) ∧ xs.length = rows.length ∧ Has H 2 (.ref L) (rowsD rows) := by
  obtain ⟨L, ls, hm, hL, ll, hls⟩ := h
  exact ⟨L, _, hm, hL, by simp [ll], has_rows hL ll few wide hls⟩
end K52

/-! a machine made of a model -/
namespace K52
open PySem L2 Evl OxK
def spMd (K : PySem.W.Frag) (C : Addr) : Sp := fun vs H Q _ => ∃ (m : Addr) (x : Str) (rows : List (List Nat)), vs = [.ref m] ∧ Mod H m x rows ∧ AlphaOk x ∧ RowsOk x rows ∧ ∀ s H', H s = none → Ex H H' → IsM K C H' s x rows → Q (.ref s) H'
section
variable {P : Program} {w : World} {K : PySem.W.Frag} {mg : Str → Option Value} {base : Heap} {f : Addr} {fd : FuncData}
/-- the rows of a model, copied one by one -/
theorem mod_rows {te : TE} {σ : L2.St} {H : Hp} {m : Addr} {x : Str} {rows : List (List Nat)} {i j : Nat} {vs : List Nat} {mk : List V → HO} (hm : σ[i]? = some (some (.ref m))) (mo : Mod H m x rows) (few : rows.length ≤ 100) (hw : ∀ x, wipe ((wipe σ vs).set j (some x)) vs = wipe σ vs)
    (it : ∀ (a : Addr) (row : List Nat) (H1 : Hp), Ex H H1 → H1 a = some (.lst (rowV row)) → EvN mk te ((wipe σ vs).set j (some (.ref a))) H1 (rowV row)) :
    EvRows mk (tLc (iList K (tOp (rIxT K) (tVar i) (tC (.int 1)))) (gName j) tYes te vs) σ H rows := by
  obtain ⟨L, ls, h1, h2, h3, h4⟩ := mo
  refine lc_new rows (ev_op (ev_var hm) ev_c (rv_ixT (SqT.of h1) rfl)) (SqL.of h2) (by simp [h3]) (by simp; omega) hw fun i2 y row H1 e1 hy hr => ?_
  rw [List.getElem?_map] at hy
  cases e : ls[i2]? with
  | none => rw [e] at hy; cases hy
  | some a =>
    rw [e] at hy
    cases hy
    exact it a row H1 e1 (e1 _ _ (h4 i2 a row e hr))
theorem mod_0 {σ : L2.St} {H : Hp} {m : Addr} {x : Str} {rows : List (List Nat)} {i : Nat} (hm : σ[i]? = some (some (.ref m))) (mo : Mod H m x rows) : Ev (tOp (rIxT K) (tVar i) (tC (.int 0))) σ H (.str x) := by
  obtain ⟨L, ls, h1, h2, h3, h4⟩ := mo
  exact ev_op (ev_var hm) ev_c (rv_ixT (SqT.of h1) rfl)
end
end K52

/-! what laws ask of machines, told over growing heaps -/
namespace K52
open PySem L2 Evl OxK
/-! ### rows as data: lists of lists -/
def rowsL (rows : List (List Nat)) : PyData := .list (rows.map fun row => .list (row.map fun g : Nat => .int (g : Int)))
theorem eqv_rowsl : ∀ a b : List (List Nat), PyData.eqvAll (a.map fun row => .list (row.map fun g : Nat => .int (g : Int))) (b.map fun row => .list (row.map fun g : Nat => .int (g : Int))) = decide (a = b)
  | [], [] => by simp [PyData.eqvAll]
  | [], _ :: _ => by simp [PyData.eqvAll]
  | _ :: _, [] => by simp [PyData.eqvAll]
  | x :: a, y :: b => by
    have ih := eqv_rowsl a b
    have ix := eqv_row x y
    simp only [List.map_cons, PyData.eqvAll, PyData.eqv, ih, ix]
    rw [Bool.eq_iff_iff]
    simp
theorem eqv_rowsL (a b : List (List Nat)) : PyData.eqv (rowsL a) (rowsL b) = decide (a = b) := by
  show PyData.eqv (.list _) (.list _) = _
  rw [PyData.eqv]
  exact eqv_rowsl a b
theorem lay_rowsl : ∀ a : List (List Nat), PyData.canLayAll0 (a.map fun row => .list (row.map fun g : Nat => .int (g : Int))) = true ∧ PyData.depthAll (a.map fun row => .list (row.map fun g : Nat => .int (g : Int))) ≤ 1
  | [] => by simp [PyData.canLayAll0, PyData.depthAll]
  | x :: a => by
    obtain ⟨h1, h2⟩ := lay_rowsl a
    obtain ⟨h3, h4⟩ := lay_row x
    refine ⟨?_, ?_⟩
    · simp only [List.map_cons, PyData.canLayAll0, PyData.canLay0, h1, h3]
      rfl
    · simp only [List.map_cons, PyData.depthAll, PyData.depth, h4]
      omega
theorem shaped_rowsL (a : List (List Nat)) : SeqAt.shaped (rowsL a) = true := by
  obtain ⟨h1, h2⟩ := lay_rowsl a
  unfold SeqAt.shaped rowsL
  simp only [PyData.canLay0, PyData.depth, h1]
  simp
  omega
theorem dp_rowsl {K : PySem.W.Frag} {H : Hp} : ∀ (bs : List Addr) (rows : List (List Nat)), bs.length = rows.length → (∀ (i : Nat) (b : Addr) (row : List Nat), bs[i]? = some b → rows[i]? = some row → H b = some (.lst (rowV row))) →
    DpAll K H (bs.map V.ref) (rows.map fun row => PyData.list (row.map fun g : Nat => PyData.int (g : Int)))
  | [], [], _, _ => .nil
  | [], _ :: _, h, _ => nomatch h
  | _ :: _, [], h, _ => nomatch h
  | b :: bs, row :: rows, h, k => .cons (.lst (SqL.of (k 0 b row rfl rfl)) (dp_row row)) (dp_rowsl bs rows (Nat.succ.inj h) fun i b' row' h1 h2 => k (i + 1) b' row' h1 h2)
/-! ### lists of data -/
def HasL (H : Hp) (n : Nat) : List V → List Dt → Prop
  | [], [] => True
  | v :: vs, d :: ds => Has H n v d ∧ HasL H n vs ds
  | _, _ => False
theorem hasl_at {H : Hp} {n : Nat} : ∀ {vs : List V} {ds : List Dt}, HasL H n vs ds → vs.length = ds.length ∧ ∀ (i : Nat) (x : V) (y : Dt), vs[i]? = some x → ds[i]? = some y → Has H n x y
  | [], [], _ => ⟨rfl, fun i x y h => nomatch h⟩
  | v :: vs, d :: ds, h => by
    obtain ⟨h1, h2⟩ := hasl_at h.2
    refine ⟨by simp [h1], fun i x y p q => ?_⟩
    cases i with
    | zero =>
      cases p
      cases q
      exact h.1
    | succ i => exact h2 i x y (by simpa using p) (by simpa using q)
  | [], _ :: _, h => h.elim
  | _ :: _, [], h => h.elim
theorem has_of {H : Hp} {n : Nat} {p : Addr} {vs : List V} {ds : List Dt} (h : HasL H n vs ds) (hp : H p = some (.lst vs)) (few : vs.length ≤ 1000 := by decide) : Has H (n + 1) (.ref p) (.l ds) :=
  .inr ⟨p, vs, ds, rfl, .inl ⟨hp, rfl⟩, (hasl_at h).1, few, (hasl_at h).2⟩
theorem has_flat {H : Hp} {v : V} (f : Flat v) : ∀ n, Has H n v (.f v)
  | 0 => ⟨f, rfl⟩
  | _ + 1 => .inl ⟨f, rfl⟩
/-! ### machines and models on the way -/
section
variable {K : PySem.W.Frag} {C : Addr} {te ta tb tl : TE} {σ : L2.St} {H : Hp} {x x2 : Str} {rows rows2 : List (List Nat)} {s m : Addr} {i j : Nat} {vs : List Nat} {mk : List V → HO} {D : Ends} {tz : TS}
def EvM (K : PySem.W.Frag) (C : Addr) (te : TE) (σ : L2.St) (H : Hp) (x : Str) (rows : List (List Nat)) : Prop := ∀ H1, Ex H H1 → ∀ Q : VK, (∀ s H2, Ex H1 H2 → IsM K C H2 s x rows → Q (.ref s) H2) → te σ H1 Q
def EvMod (te : TE) (σ : L2.St) (H : Hp) (x : Str) (rows : List (List Nat)) : Prop := ∀ H1, Ex H H1 → ∀ Q : VK, (∀ m H2, Ex H1 H2 → Mod H2 m x rows → Q (.ref m) H2) → te σ H1 Q
theorem EvM.up {H' : Hp} (h : EvM K C te σ H x rows) (e : Ex H H') : EvM K C te σ H' x rows := fun H1 e1 => h H1 (e.trans e1)
theorem em_var (hv : σ[i]? = some (some (.ref s))) (im : IsM K C H s x rows) : EvM K C (tVar i) σ H x rows := fun H1 e1 Q q => ⟨_, hv, q s H1 (Ex.refl _) (sqt_ex im e1)⟩
theorem emod_var (hv : σ[i]? = some (some (.ref m))) (mo : Mod H m x rows) : EvMod (tVar i) σ H x rows := fun H1 e1 Q q => ⟨_, hv, q m H1 (Ex.refl _) (mod_ex mo e1)⟩
theorem em_made (ax : AlphaOk x) (ro : RowsOk x rows) (h : EvMod te σ H x rows) : EvM K C (tCall (spMd K C) [] E0 (tCons te tNil)) σ H x rows := fun H1 e1 Q q =>
  h H1 e1 _ fun m H2 e2 mo => ⟨m, x, rows, rfl, mo, ax, ro, fun s H3 _ e3 im => q s H3 (e2.trans e3) im⟩
/-- a pair of a text and a list of lists of its own -/
theorem emod_new (ha : Ev ta σ H (.str x)) (hb : EvRows .lst tb σ H rows) : EvMod (tTup (tCons ta (tCons tb tNil))) σ H x rows := fun H1 e1 Q q =>
  ha H1 e1 _ fun H2 e2 => hb H2 (e1.trans e2) _ fun D bs H3 n => ⟨(by show 2 ≤ sizeLine; decide), fun p hp => q p _ ((e2.trans n.ex).trans (Ex.new hp))
    ⟨D, bs, upd_same, (Ex.new hp) _ _ n.at_, n.len, fun i a row h1 h2 => (Ex.new hp) _ _ (n.it i a row h1 h2).2.2⟩⟩
/-- another text with the rows of a model -/
theorem emod_with (ha : Ev ta σ H (.str x2)) (hv : σ[i]? = some (some (.ref m))) (mo : Mod H m x rows) : EvMod (tTup (tCons ta (tCons (tOp (rIxT K) (tVar i) (tC (.int 1))) tNil))) σ H x2 rows := by
  obtain ⟨L, ls, h1, h2, h3, h4⟩ := mo
  have hb : Ev (tOp (rIxT K) (tVar i) (tC (.int 1))) σ H (.ref L) := ev_op (ev_var hv) ev_c (rv_ixT (SqT.of h1) rfl)
  exact fun H1 e1 Q q => ha H1 e1 _ fun H2 e2 => hb H2 (e1.trans e2) _ fun H3 e3 => ⟨(by show 2 ≤ sizeLine; decide), fun p hp => by
    have e : Ex H (upd H3 p (.tup [.str x2, .ref L])) := ((e1.trans e2).trans e3).trans (Ex.new hp)
    exact q p _ ((e2.trans e3).trans (Ex.new hp)) ⟨L, ls, upd_same, e _ _ h2, h3, fun i a row q1 q2 => e _ _ (h4 i a row q1 q2)⟩⟩
theorem q_asgRows {out : List (List Nat)} (h : EvRows mk te σ H out) (k : ∀ D2 bs H1, NewR mk H H1 D2 bs out → tz D (σ.set i (some (.ref D2))) H1) : tSeq (tAsg te (gName i)) tz D σ H := h H (Ex.refl H) _ k
theorem q_asgM (h : EvM K C te σ H x rows) (k : ∀ s H1, Ex H H1 → IsM K C H1 s x rows → tz D (σ.set i (some (.ref s))) H1) : tSeq (tAsg te (gName i)) tz D σ H := h H (Ex.refl H) _ k
theorem q_asgMod (h : EvMod te σ H x rows) (k : ∀ s H1, Ex H H1 → Mod H1 s x rows → tz D (σ.set i (some (.ref s))) H1) : tSeq (tAsg te (gName i)) tz D σ H := h H (Ex.refl H) _ k
theorem em_make (ax : AlphaOk x) (ro : RowsOk x rows) (ha : Ev ta σ H (.str x)) (hb : EvMv K tb σ H rows) : EvM K C (tMake C (spMi K C) [] E0 (tCons ta (tCons tb tNil))) σ H x rows := fun H1 e1 Q q => mk_new ax ro ha hb H1 e1 Q fun s H2 _ e2 im => q s H2 e2 im
/-- == and != of machines -/
theorem ev_eqM (nf : PySem.W.notFirst K C (.ref C) = true) (ha : Ev ta σ H (.ref s)) (im : IsM K C H s x rows) (hb : EvM K C tb σ H x2 rows2) : Ev (tOp (rOwnI K C (spMeq K C) E0) ta tb) σ H (.bl (decide (x = x2) && decide (rows = rows2))) := fun H1 e1 Q q =>
  ha H1 e1 _ fun H2 e2 => hb H2 (e1.trans e2) _ fun s2 H3 e3 im2 => by
    have im3 := sqt_ex im ((e1.trans e2).trans e3)
    obtain ⟨dx, r, d, hs, r1⟩ := id im3
    obtain ⟨dx2, r2, d2, hs2, r3⟩ := id im2
    exact ⟨s, dx, _, .ref C, rfl, hs, .ins hs2, nf, s, x, rows, .ref s2, rfl, im3, .inl ⟨s2, x2, rows2, rfl, im2, fun H4 e4 => q H4 ((e2.trans e3).trans e4)⟩⟩
theorem ev_neM (nf : PySem.W.notFirst K C (.ref C) = true) (ha : Ev ta σ H (.ref s)) (im : IsM K C H s x rows) (hb : EvM K C tb σ H x2 rows2) : Ev (tOp (rNeOwnI K C (spMeq K C) E0) ta tb) σ H (.bl (!(decide (x = x2) && decide (rows = rows2)))) := fun H1 e1 Q q =>
  ha H1 e1 _ fun H2 e2 => hb H2 (e1.trans e2) _ fun s2 H3 e3 im2 => by
    have im3 := sqt_ex im ((e1.trans e2).trans e3)
    obtain ⟨dx, r, d, hs, r1⟩ := id im3
    obtain ⟨dx2, r2, d2, hs2, r3⟩ := id im2
    exact ⟨s, dx, _, .ref C, rfl, hs, .ins hs2, nf, s, x, rows, .ref s2, rfl, im3, .inl ⟨s2, x2, rows2, rfl, im2, fun H4 e4 => ⟨_, rfl, q H4 ((e2.trans e3).trans e4)⟩⟩⟩
theorem ev_eqO {y : V} {T : String} (nf : PySem.W.notFirst K C (.type T) = true) (ha : Ev ta σ H (.ref s)) (im : IsM K C H s x rows) (hb : Ev tb σ H y) (ty : ∀ H1, Ex H H1 → TyB K H1 y T ∧ TyX K H1 y (.type T)) (kt : PySem.W.kitOne K (.type T) (.ref C) = some false) :
    Ev (tOp (rOwnI K C (spMeq K C) E0) ta tb) σ H (.bl false) := fun H1 e1 Q q =>
  ha H1 e1 _ fun H2 e2 => hb H2 (e1.trans e2) _ fun H3 e3 => by
    have im3 := sqt_ex im ((e1.trans e2).trans e3)
    obtain ⟨dx, r, d, hs, r1⟩ := id im3
    obtain ⟨t1, t2⟩ := ty H3 ((e1.trans e2).trans e3)
    exact ⟨s, dx, _, .type T, rfl, hs, .blt t1, nf, s, x, rows, y, rfl, im3, .inr ⟨.type T, t2, kt, fun H4 e4 => q H4 ((e2.trans e3).trans e4)⟩⟩
theorem ev_rpM (ha : Ev ta σ H (.ref s)) (im : IsM K C H s x rows) (ax : AlphaOk x) (ro : RowsOk x rows) : Ev (tCB (rReprI C (spMrp K C) E0) (tCons ta tNil)) σ H (.str (mRepr rows.length x.length)) := fun H1 e1 Q q =>
  ha H1 e1 _ fun H2 e2 => by
    have im3 := sqt_ex im (e1.trans e2)
    obtain ⟨dx, r, d, hs, r1⟩ := id im3
    exact ⟨s, dx, _, rfl, hs, s, x, rows, rfl, im3, ax, ro, fun H3 e3 => ⟨_, rfl, q H3 (e2.trans e3)⟩⟩
theorem ev_eqL {p q : Addr} {bs cs : List Addr} (ha : Ev ta σ H (.ref p)) (hb : Ev tb σ H (.ref q)) (hp : H p = some (.lst (bs.map V.ref))) (hq : H q = some (.lst (cs.map V.ref))) (lb : bs.length = rows.length) (lc : cs.length = rows2.length)
    (ib : ∀ (j : Nat) (b : Addr) (row : List Nat), bs[j]? = some b → rows[j]? = some row → H b = some (.lst (rowV row))) (ic : ∀ (j : Nat) (b : Addr) (row : List Nat), cs[j]? = some b → rows2[j]? = some row → H b = some (.lst (rowV row))) :
    Ev (tOp (rEqD K) ta tb) σ H (.bl (decide (rows = rows2))) := fun H1 e1 Q k =>
  ha H1 e1 _ fun H2 e2 => hb H2 (e1.trans e2) _ fun H3 e3 => by
    have e := (e1.trans e2).trans e3
    refine ⟨rowsL rows, rowsL rows2, .lst (SqL.of (e _ _ hp)) (dp_rowsl bs rows lb fun i b row h1 h2 => e _ _ (ib i b row h1 h2)), .lst (SqL.of (e _ _ hq)) (dp_rowsl cs rows2 lc fun i b row h1 h2 => e _ _ (ic i b row h1 h2)), shaped_rowsL _, shaped_rowsL _, ?_⟩
    rw [eqv_rowsL]
    exact k H3 (e2.trans e3)
/-- the rows of a model, each by f -/
theorem mod_map (f : List Nat → List Nat) (hm : σ[i]? = some (some (.ref m))) (mo : Mod H m x rows) (few : rows.length ≤ 100) (hw : ∀ x, wipe ((wipe σ vs).set j (some x)) vs = wipe σ vs)
    (it : ∀ (a : Addr) (row : List Nat) (H1 : Hp), Ex H H1 → row ∈ rows → H1 a = some (.lst (rowV row)) → EvN mk te ((wipe σ vs).set j (some (.ref a))) H1 (rowV (f row))) :
    EvRows mk (tLc (iList K (tOp (rIxT K) (tVar i) (tC (.int 1)))) (gName j) tYes te vs) σ H (rows.map f) := by
  obtain ⟨L, ls, h1, h2, h3, h4⟩ := mo
  refine lc_new (rows.map f) (ev_op (ev_var hm) ev_c (rv_ixT (SqT.of h1) rfl)) (SqL.of h2) (by simp [h3]) (by simp; omega) hw fun i2 y row H1 e1 hy hr => ?_
  rw [List.getElem?_map] at hy hr
  cases e : ls[i2]? with
  | none => rw [e] at hy; cases hy
  | some a =>
    cases e2 : rows[i2]? with
    | none => rw [e2] at hr; cases hr
    | some row0 =>
      rw [e] at hy
      rw [e2] at hr
      cases hy
      cases hr
      exact it a row0 H1 e1 (List.mem_of_getElem? e2) (e1 _ _ (h4 i2 a row0 e e2))
/-- a comprehension over any walk, whose items are numbers -/
theorem lc_nums {wi : TI} {n : Nat} {yl : Nat → V → Hp → Hp → Prop} (v : Nat → Nat) (hwi : ∀ H1, Ex H H1 → ∀ R : It → Hp → Prop, (∀ J H2, Ex H1 H2 → Wk J H2 n yl → R J H2) → wi σ H1 R) (hn : n ≤ 100) (hy : ∀ i y H1 H2, yl i y H1 H2 → H2 = H1)
    (hw : ∀ x, wipe ((wipe σ vs).set j (some x)) vs = wipe σ vs) (it : ∀ i y H1, Ex H H1 → i < n → yl i y H1 H1 → Ev te ((wipe σ vs).set j (some y)) H1 (.int (v i : Int))) :
    EvN .lst (tLc wi (gName j) tYes te vs) σ H (rowV ((List.range n).map v)) := by
  intro H0 e0 Q q
  refine hwi H0 e0 _ fun J H1 e1 wk D hD => ?_
  refine lc_any (J := J) (n := n) (fun i H' => Ex H1 H' ∧ H' D = some (.lst (rowV ((List.range i).map v)))) ⟨Ex.new hD, upd_same⟩ (fun i H' hi p => wk.go i H' p.1 hi) (fun H' p => wk.stop H' p.1) ?_ (fun H' p => q D H' (fresh_back e1 hD) (e1.trans p.1) p.2)
  rintro i H4 y H5 hi ⟨e4, hDl⟩ yl'
  have yy := wk.yld i H4 y H5 e4 hi yl'
  have r := hy _ _ _ _ yy
  subst r
  refine ⟨hw y, tt_yes ?_⟩
  refine it i y _ ((e0.trans e1).trans e4) hi yy _ (Ex.refl _) _ fun H6 e6 => ?_
  refine ⟨_, e6 _ _ hDl, small1000 (by simp [rowV]; omega), Ex.mut (e4.trans e6) hD, ?_⟩
  rw [upd_same, List.range_succ]
  simp [rowV]
/-- over the signs of a text -/
theorem lc_signs {z : Str} (v : Nat → Nat) (ht : Ev tl σ H (.str z)) (few : (sg z).length ≤ 100) (hw : ∀ x, wipe ((wipe σ vs).set j (some x)) vs = wipe σ vs)
    (it : ∀ i c H1, Ex H H1 → (sg z)[i]? = some c → Ev te ((wipe σ vs).set j (some (.str ⟨#[c]⟩))) H1 (.int (v i : Int))) : EvN .lst (tLc (iStr tl) (gName j) tYes te vs) σ H (rowV ((List.range (sg z).length).map v)) := by
  have hc : z.cps.size = (sg z).length := by simp [sg]
  refine lc_nums (yl := fun i y H1 H2 => H2 = H1 ∧ ∃ c, (sg z)[i]? = some c ∧ y = .str ⟨#[c]⟩) v (fun H1 e1 R r => ht H1 e1 _ fun H2 e2 => ⟨z, rfl, r (Its z) H2 e2 ⟨fun i _ _ hi => (show i < z.cps.size by omega), fun _ _ => (show z.cps.size ≤ (sg z).length by omega), fun i H3 y H4 _ _ ⟨r1, c, h1, h2⟩ => ⟨r1, c, by simpa [sg] using h1, h2⟩⟩⟩) few (fun _ _ _ _ h => h.1) hw ?_
  rintro i y H1 e1 hi ⟨_, c, h1, rfl⟩
  exact it i c H1 e1 h1
/-- over a list of numbers -/
theorem lc_row {a : Addr} {row : List Nat} (f : Nat → Nat) (ht : Ev tl σ H (.ref a)) (ha : H a = some (.lst (rowV row))) (few : row.length ≤ 100) (hw : ∀ x, wipe ((wipe σ vs).set j (some x)) vs = wipe σ vs)
    (it : ∀ g H1, Ex H H1 → g ∈ row → Ev te ((wipe σ vs).set j (some (.int (g : Int)))) H1 (.int (f g : Int))) : EvN .lst (tLc (iList K tl) (gName j) tYes te vs) σ H (rowV (row.map f)) := by
  have z : rowV (row.map f) = rowV ((List.range (rowV row).length).map fun i => f (row.getD i 0)) := by
    congr 1
    apply List.ext_getElem
    · simp [rowV]
    · intro i h1 h2
      simp at h1
      simp [List.getD_eq_getElem?_getD, List.getElem?_eq_getElem h1]
  rw [z]
  refine lc_nums (yl := yPl (rowV row)) _ (fun H1 e1 R r => ht H1 e1 _ fun H2 e2 => ⟨a, rfl, ⟨_, SqL.of ((e1.trans e2) _ _ ha)⟩, r _ H2 e2 (wk_l (SqL.of ((e1.trans e2) _ _ ha)))⟩) (by simp [rowV]; omega) (fun _ _ _ _ h => h.1) hw ?_
  rintro i y H1 e1 hi ⟨_, h1⟩
  have hi2 : i < row.length := by simpa [rowV] using hi
  have h2 : y = .int ((row[i] : Nat) : Int) := by
    unfold rowV at h1
    rw [List.getElem?_map, List.getElem?_eq_getElem hi2] at h1
    exact (Option.some.inj h1).symm
  subst h2
  have z2 : row.getD i 0 = row[i] := by simp [List.getD_eq_getElem?_getD, List.getElem?_eq_getElem hi2]
  show Ev te _ H1 (.int ((f (row.getD i 0) : Nat) : Int))
  rw [z2]
  exact it _ H1 e1 (List.getElem_mem hi2)
end
/-- lists of rows put together -/
theorem er_one {te : TE} {σ : L2.St} {H : Hp} {row : List Nat} (h : EvN .lst te σ H (rowV row)) : EvRows .lst (tLst (tCons te tNil)) σ H [row] := fun H1 e1 Q q =>
  h H1 e1 _ fun p H2 hp e2 h2 => ⟨(by show 1 ≤ sizeLine; decide), fun D hD => q D [p] _ ⟨fresh_back e2 hD, e2.trans (Ex.new hD), rfl, upd_same, fun j b row2 h1 h3 => by
    have npD : p ≠ D := fun z => by rw [z, hD] at h2; cases h2
    cases j with
    | zero =>
      cases h1
      cases h3
      exact ⟨hp, npD, by rw [upd_ne npD]; exact h2⟩
    | succ j => simp at h1⟩⟩
theorem er_cat {ta tb : TE} {σ : L2.St} {H : Hp} {out out2 : List (List Nat)} (ha : EvRows .lst ta σ H out) (hb : EvRows .lst tb σ H out2) (few : out.length + out2.length ≤ 100) : EvRows .lst (tOp rCat ta tb) σ H (out ++ out2) := fun H1 e1 Q q =>
  ha H1 e1 _ fun D bs H2 n => hb H2 (e1.trans n.ex) _ fun D2 bs2 H3 n2 => by
    refine ⟨D, D2, _, _, rfl, rfl, n2.ex _ _ n.at_, n2.at_, Nat.le_of_lt (small1000 (by rw [List.length_map, List.length_map, n.len, n2.len]; omega)), fun p hp => ?_⟩
    refine q p (bs ++ bs2) _ ⟨fresh_back (n.ex.trans n2.ex) hp, (n.ex.trans n2.ex).trans (Ex.new hp), by simp [n.len, n2.len], by rw [upd_same, List.map_append], fun j b row h1 h3 => ?_⟩
    by_cases z : j < bs.length
    · rw [List.getElem?_append_left z] at h1
      rw [List.getElem?_append_left (by rw [← n.len]; exact z)] at h3
      obtain ⟨w1, w2, w3⟩ := n.it j b row h1 h3
      have w4 := n2.ex _ _ w3
      have nbp : b ≠ p := fun y => by rw [y, hp] at w4; cases w4
      exact ⟨w1, nbp, by rw [upd_ne nbp]; exact w4⟩
    · rw [List.getElem?_append_right (by omega)] at h1
      rw [List.getElem?_append_right (by rw [← n.len]; omega), ← n.len] at h3
      obtain ⟨w1, w2, w3⟩ := n2.it _ b row h1 h3
      have nbp : b ≠ p := fun y => by rw [y, hp] at w3; cases w3
      exact ⟨fresh_back n.ex w1, nbp, by rw [upd_ne nbp]; exact w3⟩
theorem has_s {H : Hp} {x : Str} (n : Nat) : Has H n (.str x) (.f (.str x)) := has_flat (v := .str x) True.intro n
theorem has_i {H : Hp} {z : Int} (n : Nat) : Has H n (.int z) (.f (.int z)) := has_flat (v := .int z) True.intro n
/-! ### rules with K given, for blocks within blocks -/
section
variable {X : Cx} {K : PySem.W.Frag}
theorem ix_tupK (h : X.K = K := by rfl) : IxR X (rIxT K) := by
  subst h
  exact ix_tup
theorem ix_listK (h : X.K = K := by rfl) : IxR X (rIxL K) := by
  subst h
  exact ix_list
theorem pi_listK {tg l : Expr} {tl : TE} (hl : PE X l tl) (h : X.K = K := by rfl) : PI X tg l (iList K tl) := by
  subst h
  exact pi_list hl
theorem pi_tupK {tg l : Expr} {tl : TE} (hl : PE X l tl) (h : X.K = K := by rfl) : PI X tg l (iTup K tl) := by
  subst h
  exact pi_tup hl
theorem call_len_seqK (h : X.K = K := by rfl) : CallR X (.builtin "len") (rLenS K) := by
  subst h
  exact call_len_seq
end
/-! ### another alphabet of the same length -/
theorem mno_ok : ∀ x ∈ five5, AlphaOk (cutS (Str.ofString "mno") none (some (x.length : Int))) ∧ (sg (cutS (Str.ofString "mno") none (some (x.length : Int)))).length = (sg x).length ∧ x ≠ cutS (Str.ofString "mno") none (some (x.length : Int)) := by
  have key : ∀ x ∈ five5, (1 ≤ (sg (cutS (Str.ofString "mno") none (some (x.length : Int)))).length ∧ (sg (cutS (Str.ofString "mno") none (some (x.length : Int)))).length ≤ 3 ∧ (∀ c ∈ sg (cutS (Str.ofString "mno") none (some (x.length : Int))), 97 ≤ c ∧ c ≤ 122) ∧ (sg (cutS (Str.ofString "mno") none (some (x.length : Int)))).Pairwise (· < ·)) ∧
      (sg (cutS (Str.ofString "mno") none (some (x.length : Int)))).length = (sg x).length ∧ x ≠ cutS (Str.ofString "mno") none (some (x.length : Int)) := by decide +kernel
  intro x hx
  obtain ⟨⟨h1, h3, hl, hp⟩, h4, h5⟩ := key x hx
  refine ⟨⟨h1, h3, fun k a b p q => ?_, hl⟩, h4, h5⟩
  obtain ⟨hk, e1⟩ := List.getElem?_eq_some_iff.mp p
  obtain ⟨hk2, e2⟩ := List.getElem?_eq_some_iff.mp q
  rw [← e1, ← e2]
  exact List.pairwise_iff_getElem.mp hp k (k + 1) hk hk2 (Nat.lt_succ_self k)
theorem mRepr_eq : ∀ n : Nat, n < 25 → ∀ k : Nat, k < 4 → (((Str.ofString "Machine(" ++ Str.ofString (toString (n : Int))) ++ Str.ofString " states, ") ++ Str.ofString (toString (k : Int))) ++ Str.ofString " letters)" = mRepr n k := by decide +kernel
end K52

/-! the hook: facts by names, defs at any address, one more Bool -/

/-! several except clauses that name the exception; a def called within an except suite, to which the caught exception is told -/
namespace L2
open PySem PySem.Spec PyProof.Rows
abbrev Cl := Value × Nat × (Addr → Value → Option Addr → TS)
/-- what the clauses wish of an exception of the body, one after the other; each names it in a slot of its own -/
def wManyA (K : PySem.W.Frag) (n : Nat) (Wout : WX) (D : Ends) : List Cl → WX
  | [] => Wout
  | (c, i, ts) :: r => fun cls d σ H => ∃ b, PySem.W.exmOne K cls c = some b ∧
      (b = true → ∀ a, H a = none → σ.length = n → ts a cls d { nx := fun σ' H' => D.nx (σ'.set i none) H', rt := D.rt, bk := fun σ' H' => D.bk (σ'.set i none) H', ct := fun σ' H' => D.ct (σ'.set i none) H' } (σ.set i (some (.ref a))) H) ∧
      (b = false → wManyA K n Wout D r cls d σ H)
inductive HdsA (X : Cx) : List ExceptHandler → List Cl → Prop
  | nil : HdsA X [] []
  | cons {x n : Str} {c : Value} {i : Nat} {ts : Addr → Value → Option Addr → TS} {b₀ : Stmt} {suite : List Stmt} {np pos' : Pos} {hds : List ExceptHandler} {l : List Cl} (hc : Names X x c) (hi : X.N[i]? = some n) (hln : X.env.kindOf n = some .local)
      (hsu : ∀ (a : Addr) (oe : Obj) (cls : Value) (d : Option Addr) (pn : List (Addr × Obj)), Zc cls d oe → (∃ vs, oe.data = .fields vs) → PSs (X.suite a ((a, oe) :: pn)) (b₀ :: suite) (ts a cls d)) (r : HdsA X hds l) :
      HdsA X (.ExceptHandler (some (.Name x np)) (some n) (b₀ :: suite) pos' :: hds) ((c, i, ts) :: l)
section
variable {X : Cx} {body : List Stmt} {h₀ : ExceptHandler} {hds : List ExceptHandler} {l : List Cl} {pos : Pos} {tb : WX → TS} {Wout : WX}
theorem ps_try_manyA (hs : X.stack = X.env :: X.outer) (hf : X.env.frame = some X.env.locals) (hN : X.N.Nodup) (tk : Takes X Wout)
    (hb : ∀ (W : WX) (pn : List (Addr × Obj)) (xe : Value → Shared → Prop), Takes (X.tr pn xe) W → PassesOwn (model X.prog X.w) X.A X.env xe → PSs (X.tr pn xe) body (tb W))
    (hh : HdsA X (h₀ :: hds) l) : PS X (.Try body (h₀ :: hds) [] [] pos) (fun D σ H => tb (wManyA X.K X.N.length Wout D l) D σ H) := by
  refine ⟨fun pins s σ H D I h => ?_⟩
  have ok := I.ok
  have hfr : X.A.frames = some (X.env :: X.outer) := by rw [ok.frames, hs]
  refine wpAny_Try_except ?_
  refine wpAny_mono ((hb (wManyA X.K X.N.length Wout D l) (X.pn ++ pins) (fun e s₁ => wpAny (model X.prog X.w) X.A (noteFrame e X.env) (fun _ s₂ => wpAny (model X.prog X.w) X.A (setFlight e none) (fun _ s₃ =>
    wpAny (model X.prog X.w) X.A (handleBy e X.env (h₀ :: hds)) (SP X pins D) X.xe s₃) X.xe s₂) X.xe s₁) (fun u s' xx => ?_) PassesOwn.looking).run [] s σ H D (I.toTry _) h) (fun f s1 hsp => ?_) (fun e s1 he => he)
  · obtain ⟨a, B, sI, pins', σ', H', cls, d, rfl, J', nb, up, sky, na, os, ag, w⟩ := xx
    have J : Inv X pins σ' H' sI := J'.ofTry ok
    have sky' : Sky B (X.env :: X.outer) a (Zc cls d) X.env.locals s'.heap := by rw [← hs]; exact sky
    show wpAny (model X.prog X.w) X.A (noteFrame (.ref a) X.env) _ _ _
    refine Sky.land Zc.steady hfr hf sky' fun h3 fl3 up3 => ?_
    have J3 : Inv X pins σ' H' { s' with heap := h3 } := J.landed nb fl3.1 (up.trans up3) os ag
    obtain ⟨oe3, vs3, he3, hz3, hd3⟩ := fl3.there
    have nfr : a ∉ frs (X.env :: X.outer) := fun hm => by
      obtain ⟨_, o', e', hnf⟩ := fl3.2.2.1.mem hm
      rw [he3] at e'; cases e'
      exact hnf _ hd3
    have nL : a ≠ X.env.locals := fun z => nfr (List.mem_filterMap.mpr ⟨X.env, List.mem_cons_self, by rw [hf, z]⟩)
    have nF : a ∉ X.fs := fun hm => by
      obtain ⟨e, he, q⟩ := List.mem_filterMap.mp hm
      exact nfr (List.mem_filterMap.mpr ⟨e, List.mem_cons_of_mem _ he, q⟩)
    have S3 := J3.suite he3 hd3 na nL nF
    have go : ∀ {hds' : List ExceptHandler} {l' : List Cl}, HdsA X hds' l' → wManyA X.K X.N.length Wout D l' cls d σ' H' →
        wpAny (model X.prog X.w) X.A (handleBy (.ref a) X.env hds') (SP X pins D) X.xe { s' with heap := h3 } := by
      intro hds' l' hk
      induction hk with
      | nil =>
        intro w
        refine wpAny_handleBy_nil ?_
        obtain ⟨k1, k2, k3, oe, vs, T, oT, ts', he, hz, hd, h1, hr⟩ := id fl3
        unfold PySem.passOn
        refine wpAny_bind (wpAny_field he hd h1 ?_)
        rw [if_neg (show ¬ ((Value.ref T == Value.none) = true) from by simp)]
        have fin : wpAny (model X.prog X.w) X.A (setFlight (.ref a) X.env.frame) (fun _ s4 => wpAny (model X.prog X.w) X.A (throw (.ref a) : Sem Flow) (SP X pins D) X.xe s4) X.xe { s' with heap := h3 } := by
          rw [hf]
          refine HandSPX.setFlight_upZ fl3 fun h4 hh4 up4 => wpAny_throw (tk _ _ ?_)
          exact ⟨a, B, sI, pins, σ', H', cls, d, rfl, J, nb, (up.trans up3).trans up4, .inr (.inr (by rw [hs]; exact hh4)), na, os, ag, w⟩
        first
          | exact wpAny_bind (wpAny_pure (wpAny_bind fin))
          | exact wpAny_bind fin
      | @cons x n c i ts b₀ suite np pos' hds2 l2 hc hi hln hsu r ih =>
        intro w
        obtain ⟨b, hb1, hyes, hno⟩ := w
        refine wpAny_handleBy_cons (codeAny_handlers_test ?_) (by intro q; cases q)
        have LT : PySem.W.Looks (model X.prog X.w) h3 (typeOf (.ref a)) cls := fun A Q E s k q => wpAny_typeOf_ref (k _ _ he3) (by rw [hz3.1]; exact q)
        have LM := PySem.W.exm_one (M := model X.prog X.w) (J3.kIn) LT hb1
        have test : ∀ {Q : Value → Shared → Prop} {E : Value → Shared → Prop}, Q c { s' with heap := h3 } → wpAny (model X.prog X.w) (X.A.mark (some (.ref a))) (eval (.Name x np) X.env) Q E { s' with heap := h3 } := fun {Q E} q => by
          obtain ⟨hg, hdbg, hm | ⟨hm, hv, hnn⟩⟩ := hc
          · exact ld_glob (X := X.suite a ((a, oe3) :: (X.pn ++ pins))) S3 hg hm q hdbg
          · exact ld_blt (X := X.suite a ((a, oe3) :: (X.pn ++ pins))) S3 hg hm hv q hnn hdbg
        refine test (LM.here ?_)
        cases b with
        | true =>
          refine codeAny_handlers_suite_as ?_
          refine HandSPX.lands_againZ fl3 fun h4 fl4 up4 => ?_
          have J4 : Inv X pins σ' H' { s' with heap := h4 } := J.landed nb fl4.1 ((up.trans up3).trans up4) os ag
          obtain ⟨oe4, vs4, he4, hz4, hd4⟩ := fl4.there
          have S4 := J4.suite he4 hd4 na nL nF
          refine store_ok (X := X.suite a ((a, oe4) :: (X.pn ++ pins))) (v := .ref a) S4 hN hi (.inl hln) rfl (fun s5 S5 => ?_) (.inr hln)
          refine wpAny_mono ((hsu a oe4 cls d (X.pn ++ pins) hz4 ⟨_, hd4⟩).run [] s5 _ H' _ S5 (hyes rfl a na J.len)) (fun f s6 hsp => ?_) (fun _ _ z => False.elim z)
          have end_ : ∀ {σ6 : St} {H6 : Hp} {Q : Shared → Prop}, Inv (X.suite a ((a, oe4) :: (X.pn ++ pins))) [] σ6 H6 s6 → (∀ s7, Inv X pins (σ6.set i none) H6 s7 → Q s7) →
              wpAny (model X.prog X.w) X.A (do bindName X.env n .none; unbindBehindTheSuite X.env n pos') (fun _ s7 => Q s7) X.xe s6 := fun {σ6 H6 Q} S6 hq => gone_ok (S6.unsuite ok) hN hi hln hq
          cases f with
          | next =>
            obtain ⟨σ6, H6, S6, q6⟩ := hsp
            exact end_ S6 fun s7 J7 => ⟨_, _, J7, q6⟩
          | brk =>
            obtain ⟨σ6, H6, S6, q6⟩ := hsp
            exact end_ S6 fun s7 J7 => ⟨_, _, J7, q6⟩
          | cont =>
            obtain ⟨σ6, H6, S6, q6⟩ := hsp
            exact end_ S6 fun s7 J7 => ⟨_, _, J7, q6⟩
          | ret u =>
            obtain ⟨v6, σ6, H6, S6, r6, q6⟩ := hsp
            exact end_ S6 fun s7 J7 => ⟨_, _, _, J7, r6, q6⟩
        | false =>
          show wpAny _ X.A (handleBy (.ref a) X.env hds2) _ _ _
          exact ih (hno rfl)
    exact go hh w
  · cases f with
    | next =>
      obtain ⟨σ', H', J', q⟩ := hsp
      exact wpAny_execs_nil ⟨σ', H', J'.ofTry ok, q⟩
    | brk =>
      obtain ⟨σ', H', J', q⟩ := hsp
      exact ⟨σ', H', J'.ofTry ok, q⟩
    | cont =>
      obtain ⟨σ', H', J', q⟩ := hsp
      exact ⟨σ', H', J'.ofTry ok, q⟩
    | ret u =>
      obtain ⟨v, σ', H', J', r, q⟩ := hsp
      exact ⟨v, σ', H', J'.ofTry ok, r, q⟩
end
/-- err.f of an exception that is pinned -/
theorem pe_xfP {X : Cx} {a C : Addr} {oe : Obj} {cls : Value} {d : Option Addr} {e : Expr} {te : TE} {pos : Pos} {n : Str} (T : XfC X.K C) (hno : PySem.W.findIn X.K (.ref C) n = some none)
    (hp : (a, oe) ∈ X.pn) (hz : Zc cls d oe) (hf : ∃ vs, oe.data = .fields vs) (he : PE X e te) (hb : attributeBase e n X.env (eval e X.env) = eval e X.env := by rfl) :
    PE X (.Attribute e n pos) (tXf a cls d C n te) := by
  refine ⟨fun pins s σ H Q I h => ?_⟩
  refine attr_of hb (thn (he.run pins s σ H _ I h) fun u s1 hh => ?_)
  obtain ⟨x, H1, I1, rx, ex, ec, dd, fs, v, ed, ea, l, q⟩ := hh
  subst ex
  obtain rfl : u = Value.ref a := rx
  subst ec
  subst ed
  obtain ⟨ha, _⟩ := I1.pin (a, oe) (List.mem_append_left _ hp)
  obtain ⟨vs, hd⟩ := hf
  have hx : ObjOk X.prog X.w H1 s1.heap dd (.xd fs) := I1.hok dd _ ea
  obtain ⟨mA, hns, hr⟩ := hx
  obtain ⟨od, ho, hl⟩ := lookIn_ns hns
  obtain ⟨u, hu, ru⟩ := RelO.some_of (v := v) (o := mA n) (by rw [← l]; exact hr n)
  have J : PySem.W.InstAt s1.heap a oe C (some od) := ⟨ha, hz.1, by unfold PySem.W.notCls; rw [hd] <;> rfl, by rw [hz.2]; exact ho⟩
  exact HandSPX.exc_get I1.kIn J T.ga T.gg T.exC (PySem.W.findObj_own T.hdC hno rfl (by rw [hl, hu])) (handed_of ru) ⟨v, H1, I1.tok _, ru, q⟩
/-- an own class whose fields the law reads: it has no such names itself -/
structure TagC (K : PySem.W.Frag) (C : Addr) : Prop where
  xf : XfC K C
  no : ∀ n ∈ tagNs, PySem.W.findIn K (.ref C) n = some none
theorem tagB_ok {K : PySem.W.Frag} {C : Addr} (h : tagB K C = true) : TagC K C := by
  obtain ⟨h1, h2⟩ := Bool.and_eq_true_iff.mp h
  exact ⟨xfB_ok h1, fun n hn => of_decide_eq_true (List.all_eq_true.mp h2 n hn)⟩
/-- the reading: the class is told by the very exception -/
def tXfG (K : PySem.W.Frag) (a : Addr) (cls : Value) (d : Option Addr) (f : Str) (te : TE) : TE := fun σ H Q => te σ H fun x H1 => x = .ref a ∧ ∃ (C dd : Addr) (fs : List (Str × V)) (v : V), cls = .ref C ∧ TagC K C ∧ f ∈ tagNs ∧ d = some dd ∧ H1 dd = some (.xd fs) ∧ fs.lookup f = some v ∧ Q v H1
theorem pe_xfG {X : Cx} {p : Addr × Obj} {cls : Value} {d : Option Addr} {e : Expr} {te : TE} {pos : Pos} {n : Str}
    (hp : p ∈ X.pn) (hz : Zc cls d p.2) (hf : ∃ vs, p.2.data = .fields vs) (he : PE X e te) (hb : attributeBase e n X.env (eval e X.env) = eval e X.env := by rfl) :
    PE X (.Attribute e n pos) (tXfG X.K p.1 cls d n te) := by
  obtain ⟨a, oe⟩ := p
  refine ⟨fun pins s σ H Q I h => ?_⟩
  refine attr_of hb (thn (he.run pins s σ H _ I h) fun u s1 hh => ?_)
  obtain ⟨x, H1, I1, rx, ex, C, dd, fs, v, ec, T, hn, ed, ea, l, q⟩ := hh
  subst ex
  obtain rfl : u = Value.ref a := rx
  subst ec
  subst ed
  obtain ⟨ha, _⟩ := I1.pin (a, oe) (List.mem_append_left _ hp)
  obtain ⟨vs, hd⟩ := hf
  have hx : ObjOk X.prog X.w H1 s1.heap dd (.xd fs) := I1.hok dd _ ea
  obtain ⟨mA, hns, hr⟩ := hx
  obtain ⟨od, ho, hl⟩ := lookIn_ns hns
  obtain ⟨u, hu, ru⟩ := RelO.some_of (v := v) (o := mA n) (by rw [← l]; exact hr n)
  have J : PySem.W.InstAt s1.heap a oe C (some od) := ⟨ha, hz.1, by unfold PySem.W.notCls; rw [hd] <;> rfl, by rw [hz.2]; exact ho⟩
  exact HandSPX.exc_get I1.kIn J T.xf.ga T.xf.gg T.xf.exC (PySem.W.findObj_own T.xf.hdC (T.no n hn) rfl (by rw [hl, hu])) (handed_of ru) ⟨v, H1, I1.tok _, ru, q⟩
open L2H
/-- what a def promises to whom it is told in an except suite; p: the caught exception -/
structure FnC (P : Program) (w : World) (K : PySem.W.Frag) (mg : Str → Option Value) (base : Heap) (CX : CXT) (p : Addr × Obj) (k : Nat) (f : Addr) (fd : FuncData) (ps : List Str) (sp : Sp) : Prop where
  len : ∀ vs H Q E, sp vs H Q E → vs.length = ps.length
  run : ∀ (A : Around) (outer : List Env) (s : Shared) (H : Hp) (args : Args) (us : List Value) (vs : List V) (Q : VK) (E : XK), RoomH k A → PinOk outer H s p → Env0 P w K mg base A outer s H → BindsTo s fd args (ps.zip us) → Vals vs us → sp vs H Q E →
    codeAny (model P w) A (.call (.ref f) args) (CR CX outer P w H s Q E) s
theorem fn_ofC {CX : CXT} {P : Program} {w : World} {K : PySem.W.Frag} {mg : Str → Option Value} {base : Heap} {p : Addr × Obj} {k : Nat} {f : Addr} {name qual : Str} {params : Arguments} {body : List Stmt} {scope : Scope} {dV kV doc pm cdv ct oc : Value} {an od : Option Addr}
    {osl : Array (Option Value)} {N ps : List Str} {sp : Sp} (lk : K.lookup f = some ⟨oc, od, .func (PySem.W.fnOf name qual params body scope dV kV doc pm an cdv ct), osl⟩) (hcd : PySem.W.codeIn K cdv qual = true) (S : FnScope N ps scope)
    (len : ∀ vs H Q E, sp vs H Q E → vs.length = ps.length)
    (hbody : ∀ (A : Around) (outer : List Env) (s : Shared) (H : Hp) (vs : List V) (Q : VK) (E : XK), RoomH k (A.deeper (envOfC qual scope s.heap.objs.size f cdv)) → sp vs H Q E →
      ∃ t, PSs (cxH CX P w K mg base N qual scope f cdv A outer s H E p) body t ∧ t { nx := fun _ H' => Q .non H', rt := Q } (L2.start N vs) H) :
    FnC P w K mg base CX p (k + 1) f (PySem.W.fnOf name qual params body scope dV kV doc pm an cdv ct) ps sp := by
  refine ⟨len, fun A outer s H args us vs Q E hr hpin e0 hb r hsp => ?_⟩
  have hl := len _ _ _ _ hsp
  have KX : K.In s.heap := e0.mod.kin.keeps fun b o e => (e0.bs b o e).1
  have lim : s.heap.NoLimit := e0.mod.nolimit.keeps fun b o e => (e0.bs b o e).1
  have hkind : ∀ y ∈ ps.zip us, scope.names.lookup y.1 = some .local ∨ (scope.names.lookup y.1 = some .cell ∧ ((cellsFrom (s.heap.objs.size + 1) scope.names []).lookup y.1).isSome = true) := fun ⟨n, v⟩ hy => by
    rcases S.par n (List.of_mem_zip hy).1 with q | q
    · exact .inl q
    · exact .inr ⟨q, PySem.W.cellsFrom_some _ _ _ (.inl q)⟩
  refine codeAny_call_function hr.depth (KX _ _ lk) rfl S.co S.gen rfl (PySem.W.codeRec_of KX hcd) (hb _ _ _ _ ?_)
  refine wpAny_newFunctionEnv_cells S.kind hkind fun env he s1 x => ?_
  subst he
  refine ⟨lim.keeps x.toInCall.keep, codeAny_func ?_⟩
  obtain ⟨t, ht, hq⟩ := hbody A outer s H vs Q E (hr.deeper _) hsp
  have I : Inv (cxH CX P w K mg base N qual scope f cdv A outer s H E p) [] (L2.start N vs) H s1 := inv_startH S hpin e0 hl r x
  refine wpAny_mono (ht.run [] s1 (L2.start N vs) H _ I hq) (fun fl s' hs => ?_) fun e s' hs => hs
  have fin : ∀ {σ' : L2.St} {H' : Hp} {v : V} {u : Value}, Inv (cxH CX P w K mg base N qual scope f cdv A outer s H E p) [] σ' H' s' → RelV v u → Q v H' → CE outer P w H s Q u s' :=
    fun {σ' H' v u} J rv q => ⟨v, H', J.os, J.bare, J.base, J.hok, rv, q⟩
  cases fl with
  | ret u =>
    obtain ⟨v, σ', H', J, rv, q⟩ := hs
    exact fin J rv q
  | next =>
    obtain ⟨σ', H', J, q⟩ := hs
    exact fin (v := V.non) (u := Value.none) J rfl q
  | brk =>
    obtain ⟨_, _, _, q⟩ := hs
    exact False.elim q
  | cont =>
    obtain ⟨_, _, _, q⟩ := hs
    exact False.elim q
theorem FunD.okC {CX : CXT} {P : Program} {w : World} {K : PySem.W.Frag} {mg : Str → Option Value} {base : Heap} {x qual : Str} {params : Arguments} {body : List Stmt} {scope : Scope} {dvs : List V} {kws : List (Str × V)} {f : Addr} {fd : FuncData} {p : Addr × Obj} {N ps : List Str} {k : Nat} {sp : Sp}
    (F : FunD K x qual params body scope dvs kws f fd) (S : FnScope N ps scope) (len : ∀ vs H Q E, sp vs H Q E → vs.length = ps.length)
    (hbody : ∀ (cdv : Value) (A : Around) (outer : List Env) (s : Shared) (H : Hp) (vs : List V) (Q : VK) (E : XK), RoomH k (A.deeper (envOfC qual scope s.heap.objs.size f cdv)) → sp vs H Q E →
      ∃ t, PSs (cxH CX P w K mg base N qual scope f cdv A outer s H E p) body t ∧ t { nx := fun _ H' => Q .non H', rt := Q } (start N vs) H) : FnC P w K mg base CX p (k + 1) f fd ps sp := by
  obtain ⟨oc, od, dV, kV, doc, pm, an, cdv, ct, osl, rfl, lk, hcd, _, _⟩ := F.ex
  exact fn_ofC lk hcd S len fun A outer s H vs Q E hr hsp => hbody cdv A outer s H vs Q E hr hsp
theorem pe_callC {X : Cx} {CX : CXT} {p : Addr × Obj} {k : Nat} {f : Addr} {fd : FuncData} {ps : List Str} {sp : Sp} {E : XK} {x : Str} {q pos : Pos} {e : Expr} {es : List Expr} {t : TA} (F : FnC X.prog X.w X.K X.mg X.base CX p k f fd ps sp) (hr : RoomH k X.A) (hp : p ∈ X.pn) (hg : Gl X x) (hm : X.mg x = some (.ref f))
    (hk : PySem.W.keepIn X.K (.ref f) = true) (hb : Binds X.K fd ps []) (hx : Passes CX X E)
    (ha : PA X (e :: es) t) (hdb : (x == ("__debug__" : Str)) = false := by decide) (he : starEach (e :: es) X.env = (false, eval e X.env) :: starEach es X.env := by rfl) (hpl : (backTo pos (starEach es X.env)).any (·.1) = false := by rfl) :
    PE X (.Call (.Name x q) (e :: es) [] pos) (fun σ H Q => t σ H fun vs H1 => sp vs H1 Q E) := by
  refine ⟨fun pins s σ H Q I h => ?_⟩
  refine wpAny_Call_Name_kw (ld_glob I hg hm ?_ hdb)
  refine PySem.W.callWith_K (h₀ := X.base) I.ok.mod.kin hk (thn (ha.run pos pins s σ H _ I h) fun us s1 ⟨vs, H1, I1, r, q⟩ => ⟨I1.kIn, ?_⟩) he hpl
  have hl : us.length = ps.length := by rw [← r.length]; exact F.len _ _ _ _ q
  have b := hb s1 us I1.kIn (by rw [List.append_nil]; exact hl)
  rw [List.append_nil] at b
  have P1 := I1.pin p (List.mem_append_left _ hp)
  have hpin : PinOk X.stack H1 s1 p := ⟨P1.1, P1.2.1, fun hm => (List.mem_cons.mp (I1.stkSub p.1 hm)).elim P1.2.2.1 P1.2.2.2.1, P1.2.2.2.2⟩
  refine wpAny_call (codeAny_mono (F.run X.A X.stack s1 H1 ⟨us, []⟩ us vs Q E hr hpin I1.env0 b r q) fun r s' hq => ?_)
  cases r with
  | error e => exact hx pins σ H1 s1 e s' I1 hq
  | ok fl =>
    cases fl with
    | ret u => exact I1.after hq
    | next => exact False.elim hq
    | brk => exact False.elim hq
    | cont => exact False.elim hq
end L2

-- base: law_k52_report_texts
/-! _law_field, told of a caught exception -/
namespace K52
open PySem L2 L2H Evl OxK
def nm6 : List V := [.str "InvalidStates", .str "InvalidState", .str "InvalidWord", .str "InvalidCount", .str "InvalidIndex", .str "InvalidLimit"]
def nm3 : List V := [.str "InvalidName", .str "DuplicateName", .str "UnknownName"]
/-- what the law reads of an exception of the name tg with the fields fs -/
def fldV (tg : Str) (fs : List (Str × V)) : Option V :=
  if inV (.str tg) nm6 = true then fs.lookup ("given" : Str) else if V.str tg = .str "TooMany" then fs.lookup ("most" : Str) else if inV (.str tg) nm3 = true then fs.lookup ("name" : Str)
  else if V.str tg = .str "InvalidMove" then fs.lookup ("index" : Str) else if V.str tg = .str "CapacityExceeded" then fs.lookup ("limit" : Str) else if V.str tg = .str "InvalidCommand" then fs.lookup ("word" : Str) else if V.str tg = .str "ParseError" then fs.lookup ("line" : Str) else some .non
def spFld (K : PySem.W.Frag) (a : Addr) (cls : Value) (d : Option Addr) : Sp := fun vs H Q _ => ∃ (C dd : Addr) (fs : List (Str × V)) (tg : Str) (v : V), vs = [.ref a] ∧ cls = .ref C ∧ TagC K C ∧ d = some dd ∧ H dd = some (.xd fs) ∧ fs.lookup ("tag" : Str) = some (.str tg) ∧ fldV tg fs = some v ∧ ∀ H', Ex H H' → Q v H'
section
variable {P : Program} {w : World} {K : PySem.W.Frag} {mg : Str → Option Value} {base : Heap} {f : Addr} {fd : FuncData}
theorem scFld : FnScope ["_law_e"] ["_law_e"] (defScope sFeld) := ⟨rfl, rfl, rfl, by decide +kernel, rfl, by decide +kernel, by decide +kernel⟩
theorem ok_fld {CX : CXT} {p : Addr × Obj} {cls : Value} {d : Option Addr} (F : FnP K "_law_field" sFeld f fd) (hz : Zc cls d p.2) (hf : ∃ vs, p.2.data = .fields vs) : FnC P w K mg base CX p 1 f fd ["_law_e"] (spFld K p.1 cls d) := by
  refine F.okC scFld (fun vs H Q E h => ?_) (fun cdv A outer s H vs Q E hr h => ?_)
  · obtain ⟨C, dd, fs, tg, v, rfl, _⟩ := h
    rfl
  · obtain ⟨C, dd, fs, tg, v, rfl, hC, T, hd, hx, ht, hv, q⟩ := h
    have hp : p ∈ (cxH CX P w K mg base ["_law_e"] "_law_field" (defScope sFeld) f cdv A outer s H E p).pn := List.mem_singleton_self p
    have ex : ∀ {H1 : Hp} {a : Addr} {o : HO}, Ex H H1 → H1 a = none → Ex H (upd H1 a o) := fun e n b o' h => by rw [upd_ne (ne_of_none (e b o' h) n)]; exact e b o' h
    have e0 : Ex H H := fun _ _ h => h
    refine ⟨_, (pss_cons (ps_if (pt_cmpR op_in_seq (pe_xfG (n := "tag") hp hz hf (pv 0)) (pe_lst (pa_cons pe_str (pa_cons pe_str (pa_cons pe_str (pa_cons pe_str (pa_cons pe_str (pa_cons pe_str pa_nil))))))) (by with_unfolding_all rfl)) (pss_one (ps_ret (pe_xfG (n := "given") hp hz hf (pv 0)))) pss_nil)
      (pss_cons (ps_if (pt_cmpR op_eq (pe_xfG (n := "tag") hp hz hf (pv 0)) pe_str (nomark _)) (pss_one (ps_ret (pe_xfG (n := "most") hp hz hf (pv 0)))) pss_nil)
      (pss_cons (ps_if (pt_cmpR op_in_seq (pe_xfG (n := "tag") hp hz hf (pv 0)) (pe_lst (pa_cons pe_str (pa_cons pe_str (pa_cons pe_str pa_nil)))) (by with_unfolding_all rfl)) (pss_one (ps_ret (pe_xfG (n := "name") hp hz hf (pv 0)))) pss_nil)
      (pss_cons (ps_if (pt_cmpR op_eq (pe_xfG (n := "tag") hp hz hf (pv 0)) pe_str (nomark _)) (pss_one (ps_ret (pe_xfG (n := "index") hp hz hf (pv 0)))) pss_nil)
      (pss_cons (ps_if (pt_cmpR op_eq (pe_xfG (n := "tag") hp hz hf (pv 0)) pe_str (nomark _)) (pss_one (ps_ret (pe_xfG (n := "limit") hp hz hf (pv 0)))) pss_nil)
      (pss_cons (ps_if (pt_cmpR op_eq (pe_xfG (n := "tag") hp hz hf (pv 0)) pe_str (nomark _)) (pss_one (ps_ret (pe_xfG (n := "word") hp hz hf (pv 0)))) pss_nil)
      (pss_one (ps_ret (pe_ifExp (pt_cmpR op_eq (pe_xfG (n := "tag") hp hz hf (pv 0)) pe_str (nomark _)) (pe_xfG (n := "line") hp hz hf (pv 0)) pe_non))))))))), ?_⟩
    unfold fldV at hv
    refine ⟨_, rfl, rfl, C, dd, fs, _, hC, T, by decide, hd, e0 _ _ hx, ht, ?_⟩
    refine ⟨by decide, fun a1 n1 => ⟨a1, nm6, rfl, .inl (SqL.of upd_same), rfl, rfl, _, rfl, ?_⟩⟩
    have e1 := ex (o := .lst nm6) e0 n1
    refine ite2 (fun h => ?_) (fun h => ?_)
    · rw [if_pos (show inV (.str tg) nm6 = true from h)] at hv
      exact ⟨_, rfl, rfl, C, dd, fs, _, hC, T, by decide, hd, e1 _ _ hx, hv, q _ e1⟩
    rw [if_neg (show ¬ inV (.str tg) nm6 = true from h)] at hv
    refine ⟨_, rfl, rfl, C, dd, fs, _, hC, T, by decide, hd, e1 _ _ hx, ht, ?_⟩
    refine ⟨rfl, _, rfl, ?_⟩
    refine ite2 (fun h => ?_) (fun h => ?_)
    · rw [if_pos (of_decide_eq_true h)] at hv
      exact ⟨_, rfl, rfl, C, dd, fs, _, hC, T, by decide, hd, e1 _ _ hx, hv, q _ e1⟩
    rw [if_neg (fun z => h (decide_eq_true z))] at hv
    refine ⟨_, rfl, rfl, C, dd, fs, _, hC, T, by decide, hd, e1 _ _ hx, ht, ?_⟩
    refine ⟨by decide, fun a2 n2 => ⟨a2, nm3, rfl, .inl (SqL.of upd_same), rfl, rfl, _, rfl, ?_⟩⟩
    have e2 := ex (o := .lst nm3) e1 n2
    refine ite2 (fun h => ?_) (fun h => ?_)
    · rw [if_pos (show inV (.str tg) nm3 = true from h)] at hv
      exact ⟨_, rfl, rfl, C, dd, fs, _, hC, T, by decide, hd, e2 _ _ hx, hv, q _ e2⟩
    rw [if_neg (show ¬ inV (.str tg) nm3 = true from h)] at hv
    refine ⟨_, rfl, rfl, C, dd, fs, _, hC, T, by decide, hd, e2 _ _ hx, ht, ?_⟩
    refine ⟨rfl, _, rfl, ?_⟩
    refine ite2 (fun h => ?_) (fun h => ?_)
    · rw [if_pos (of_decide_eq_true h)] at hv
      exact ⟨_, rfl, rfl, C, dd, fs, _, hC, T, by decide, hd, e2 _ _ hx, hv, q _ e2⟩
    rw [if_neg (fun z => h (decide_eq_true z))] at hv
    refine ⟨_, rfl, rfl, C, dd, fs, _, hC, T, by decide, hd, e2 _ _ hx, ht, ?_⟩
    refine ⟨rfl, _, rfl, ?_⟩
    refine ite2 (fun h => ?_) (fun h => ?_)
    · rw [if_pos (of_decide_eq_true h)] at hv
      exact ⟨_, rfl, rfl, C, dd, fs, _, hC, T, by decide, hd, e2 _ _ hx, hv, q _ e2⟩
    rw [if_neg (fun z => h (decide_eq_true z))] at hv
    refine ⟨_, rfl, rfl, C, dd, fs, _, hC, T, by decide, hd, e2 _ _ hx, ht, ?_⟩
    refine ⟨rfl, _, rfl, ?_⟩
    refine ite2 (fun h => ?_) (fun h => ?_)
    · rw [if_pos (of_decide_eq_true h)] at hv
      exact ⟨_, rfl, rfl, C, dd, fs, _, hC, T, by decide, hd, e2 _ _ hx, hv, q _ e2⟩
    rw [if_neg (fun z => h (decide_eq_true z))] at hv
    refine ⟨_, rfl, rfl, C, dd, fs, _, hC, T, by decide, hd, e2 _ _ hx, ht, ?_⟩
    refine ⟨rfl, _, rfl, ?_⟩
    refine ite2 (fun h => ?_) (fun h => ?_)
    · rw [if_pos (of_decide_eq_true h)] at hv
      exact ⟨_, rfl, rfl, C, dd, fs, _, hC, T, by decide, hd, e2 _ _ hx, hv, q _ e2⟩
    · rw [if_neg (fun z => h (decide_eq_true z))] at hv
      cases hv
      exact q _ e2
end
end K52

-- base: law_k52_report_texts
/-! _law_try, handed a lambda -/
namespace K52
open PySem L2 L2H LamX Evl OxK
/-- what the law makes of an exception that it catches -/
def Caught (K : PySem.W.Frag) (C1 C2 C3 : Addr) (Q : VK) (cls : Value) (d : Option Addr) (H' : Hp) : Prop :=
  ∃ (C dd : Addr) (fs : List (Str × V)) (tg : Str) (v : V), cls = .ref C ∧ TagC K C ∧ d = some dd ∧ H' dd = some (.xd fs) ∧ fs.lookup ("tag" : Str) = some (.str tg) ∧
    ((PySem.W.exmOne K cls (.ref C1) = some true ∧ fldV tg fs = some v) ∨ (PySem.W.exmOne K cls (.ref C1) = some false ∧ PySem.W.exmOne K cls (.ref C2) = some true ∧ fldV tg fs = some v) ∨
      (PySem.W.exmOne K cls (.ref C1) = some false ∧ PySem.W.exmOne K cls (.ref C2) = some false ∧ PySem.W.exmOne K cls (.ref C3) = some true ∧ v = .non)) ∧
    ∀ p H'', H' p = none → Ex H' H'' → H'' p = some (.tup [.str tg, v]) → Q (.ref p) H''
def TTry (K : PySem.W.Frag) (C1 C2 C3 : Addr) : (XK → Hp → VK → Prop) → Hp → VK → Prop := fun tl H Q =>
  tl (Caught K C1 C2 C3 Q) H fun v H' => [V.str "value", v].length ≤ sizeLine ∧ ∀ p, H' p = none → Q (.ref p) (upd H' p (.tup [.str "value", v]))
abbrev tsA (K : PySem.W.Frag) : Addr → Value → Option Addr → TS := fun a cls d => tRet (tTup (tCons (tXfG K a cls d "tag" (tVar 1)) (tCons (fun σ H Q => (tCons (tVar 1) tNil) σ H fun vs H1 => spFld K a cls d vs H1 Q E0) tNil)))
abbrev tsB (K : PySem.W.Frag) : Addr → Value → Option Addr → TS := fun a cls d => tRet (tTup (tCons (tXfG K a cls d "tag" (tVar 1)) (tCons (tC .non) tNil)))
section
variable {P : Program} {w : World} {K : PySem.W.Frag} {mg : Str → Option Value} {base : Heap} {f : Addr} {fd : FuncData}
theorem scTry : FnScope ["_law_ask", "_law_e"] ["_law_ask"] (defScope sTry) := ⟨rfl, rfl, rfl, by decide +kernel, rfl, by decide +kernel, by decide +kernel⟩
theorem try_gives {X : Cx} {fF g C1 C2 C3 : Addr} {fdF : FuncData} {cdg : Value} {k : Nat} {q : Str} (FF : FnP X.K "_law_field" sFeld fF fdF) (gF : X.mg "_law_field" = some (.ref fF)) (kF : PySem.W.keepIn X.K (.ref fF) = true) (bF : Binds X.K fdF ["_law_e"] [])
    (g1 : X.mg "TeamError" = some (.ref C1)) (g2 : X.mg "Missing" = some (.ref C2)) (g3 : X.mg "NothingLeft" = some (.ref C3)) (hr : Room 3 X.A) :
    GivesTo X ["_law_ask", "_law_e"] "_law_try" (defScope sTry) g cdg (defBody sTry) "_law_ask" q (TTry X.K C1 C2 C3) := by
  intro f c' s H Q tl act hc h
  have hrH : ∀ {env : Env} {z : Option Value}, RoomH 1 ((X.A.deeper env).mark z) := fun {env z} => by
    have r := (roomH_of hr).deeper env
    exact ⟨by have := r.dp; show (X.A.deeper env).depth + 3 * 1 + 5 < _; omega, by have := r.un; show (X.A.deeper env).units + 16 * 1 + 200 < _; omega⟩
  have nm : ∀ {x : Str} {C : Addr}, (defScope sTry).names.lookup x = some .globalImplicit → (x == ("__debug__" : Str)) = false → X.mg x = some (.ref C) → Names (cxOf C8.CX0 X.prog X.w X.K X.mg X.base ["_law_ask", "_law_e"] "_law_try" (defScope sTry) g cdg X.A X.stack s H C8.E0).nox x (.ref C) := fun h1 h2 h3 => ⟨h1, h2, .inl h3⟩
  refine ⟨_, pss_one (ps_try_manyA (X := (cxOf C8.CX0 X.prog X.w X.K X.mg X.base ["_law_ask", "_law_e"] "_law_try" (defScope sTry) g cdg X.A X.stack s H C8.E0).nox)
      (tb := fun W D σ H => ∃ Ech : XK, (∀ cls d σ' H', Ech cls d H' → W cls d σ' H') ∧ σ[0]? = some (some (.ref f)) ∧ H c' = some (CodeO c' q) ∧ tl Ech H (fun v H' => [V.str "value", v].length ≤ sizeLine ∧ ∀ p, H' p = none → D.rt (.ref p) (upd H' p (.tup [.str "value", v]))))
      rfl rfl scTry.nd takes0 (fun W pn xe tk _ => ?_)
      (HdsA.cons (nm rfl (by decide) g1) (ts := tsA X.K) (i := 1) rfl rfl (fun a oe cls d pn hz hf => ?_) (HdsA.cons (nm rfl (by decide) g2) (ts := tsA X.K) (i := 1) rfl rfl (fun a oe cls d pn hz hf => ?_) (HdsA.cons (nm rfl (by decide) g3) (ts := tsB X.K) (i := 1) rfl rfl (fun a oe cls d pn hz hf => ?_) HdsA.nil)))), ?_⟩
  · refine ⟨fun pins s' σ H' D I h' => ?_⟩
    obtain ⟨Ech, hW, h1, h2, h3⟩ := h'
    refine (pss_one (ps_ret (pe_tup (pa_cons pe_str (pa_cons (act W pn xe Ech _ _ tk hW) pa_nil))))).run pins s' σ H' D I ?_
    exact ⟨h1, h2, h3⟩
  · exact pss_one (ps_ret (pe_tup (pa_cons (pe_xfG (p := (a, oe)) (n := "tag") List.mem_cons_self hz hf (pv 1)) (pa_cons (pe_callC (CX := CX0) (E := E0) (ok_fld (p := (a, oe)) FF hz hf) hrH List.mem_cons_self rfl gF kF bF pass0 (pa_cons (pv 1) pa_nil)) pa_nil))))
  · exact pss_one (ps_ret (pe_tup (pa_cons (pe_xfG (p := (a, oe)) (n := "tag") List.mem_cons_self hz hf (pv 1)) (pa_cons (pe_callC (CX := CX0) (E := E0) (ok_fld (p := (a, oe)) FF hz hf) hrH List.mem_cons_self rfl gF kF bF pass0 (pa_cons (pv 1) pa_nil)) pa_nil))))
  · exact pss_one (ps_ret (pe_tup (pa_cons (pe_xfG (p := (a, oe)) (n := "tag") List.mem_cons_self hz hf (pv 1)) (pa_cons pe_non pa_nil))))
  · refine ⟨Caught X.K C1 C2 C3 Q, fun cls d σ' H' hC => ?_, rfl, hc, h⟩
    obtain ⟨C, dd, fs, tg, v, ec, T, ed, hx, ht, hk, q⟩ := hC
    have at1 : ∀ {a : Addr}, σ'.length = 2 → (σ'.set 1 (some (V.ref a)))[1]? = some (some (V.ref a)) := fun hl => List.getElem?_set_self (by omega)
    have ex : ∀ {H1 : Hp} {a : Addr} {o : HO}, Ex H' H1 → H1 a = none → Ex H' (upd H1 a o) := fun e n b o' h => by rw [upd_ne (ne_of_none (e b o' h) n)]; exact e b o' h
    have fldA : fldV tg fs = some v → ∀ (D : Ends), D.rt = Q → ∀ a, H' a = none → σ'.length = 2 → tsA X.K a cls d D (σ'.set 1 (some (.ref a))) H' := fun hv D hD a na hl => by
      refine ⟨_, at1 hl, rfl, C, dd, fs, _, ec, T, by decide, ed, hx, ht, _, at1 hl, C, dd, fs, tg, v, rfl, ec, T, ed, hx, ht, hv, fun H2 e2 => ⟨(show (2 : Nat) ≤ sizeLine by decide), fun p hp => ?_⟩⟩
      rw [hD]
      refine q _ _ ?_ (ex e2 hp) upd_same
      cases z : H' p with
      | none => rfl
      | some o =>
        rw [e2 _ _ z] at hp
        cases hp
    rcases hk with ⟨k1, hv⟩ | ⟨k1, k2, hv⟩ | ⟨k1, k2, k3, hv⟩
    · exact ⟨true, k1, fun _ a na hl => fldA hv _ rfl a na hl, (fun z => by cases z)⟩
    · exact ⟨false, k1, (fun z => by cases z), fun _ => ⟨true, k2, fun _ a na hl => fldA hv _ rfl a na hl, (fun z => by cases z)⟩⟩
    · refine ⟨false, k1, (fun z => by cases z), fun _ => ⟨false, k2, (fun z => by cases z), fun _ => ⟨true, k3, fun _ a na hl => ?_, (fun z => by cases z)⟩⟩⟩
      subst hv
      refine ⟨_, at1 hl, rfl, C, dd, fs, _, ec, T, by decide, ed, hx, ht, (show (2 : Nat) ≤ sizeLine by decide), fun p hp => q _ _ hp (ex (fun _ _ h => h) hp) upd_same⟩
end
end K52

/-! copied of data of any depth -/
namespace K52
open PySem L2 Evl OxK
/-- what is new in H' -/
def nw (H H' : Hp) : Hp := fun b => match H b with | none => H' b | some _ => none
def dl (D : Addr) (H : Hp) : Hp := fun b => if b = D then none else H b
theorem nw_some {H H' : Hp} {b : Addr} {o : HO} (h : nw H H' b = some o) : H b = none ∧ H' b = some o := by
  unfold nw at h
  split at h
  · rename_i e
    exact ⟨e, h⟩
  · cases h
theorem nw_of {H H' : Hp} {b : Addr} {o : HO} (h : H b = none) (h' : H' b = some o) : nw H H' b = some o := by
  unfold nw
  rw [h]
  exact h'
theorem nw_ex {H H' : Hp} : Ex (nw H H') H' := fun _ _ h => (nw_some h).2
theorem nw_mono {H0 H H' : Hp} (e : Ex H0 H) : Ex (nw H H') (nw H0 H') := fun b o h => by
  obtain ⟨h1, h2⟩ := nw_some h
  refine nw_of ?_ h2
  cases q : H0 b with
  | none => rfl
  | some u => rw [e b u q] at h1; cases h1
theorem nw_up {H H' H'' : Hp} (e : Ex H' H'') : Ex (nw H H') (nw H H'') := fun b o h => by
  obtain ⟨h1, h2⟩ := nw_some h
  exact nw_of h1 (e _ _ h2)
theorem dl_some {D : Addr} {H : Hp} {b : Addr} {o : HO} (h : dl D H b = some o) : b ≠ D ∧ H b = some o := by
  unfold dl at h
  split at h
  · cases h
  · rename_i e
    exact ⟨e, h⟩
theorem dl_of {D : Addr} {H : Hp} {b : Addr} {o : HO} (n : b ≠ D) (h : H b = some o) : dl D H b = some o := by
  unfold dl
  rw [if_neg n]
  exact h
/-- copied of data -/
def spCpN (n : Nat) : Sp := fun vs H Q _ => ∃ (v : V) (d : Dt), vs = [v] ∧ Has H n v d ∧ ∀ v' H', Ex H H' → Has (nw H H') n v' d → Q v' H'
section
variable {P : Program} {w : World} {K : PySem.W.Frag} {mg : Str → Option Value} {base : Heap} {f : Addr} {fd : FuncData}
/-- what stands of the copies behind i turns -/
def CpT (H0 : Hp) (D : Addr) (n : Nat) (ds : List Dt) (i : Nat) (H' : Hp) : Prop := Ex H0 H' ∧ ∃ us : List V, H' D = some (.lst us) ∧ us.length = i ∧ ∀ (j : Nat) (x : V) (y : Dt), us[j]? = some x → ds[j]? = some y → Has (dl D (nw H0 H')) n x y
theorem cpt_step {H0 H' H4 : Hp} {D : Addr} {n i : Nat} {ds : List Dt} {u : V} {y : Dt} (hD : H0 D = none) (p : CpT H0 D n ds i H') (hy : ds[i]? = some y) (e : Ex H' H4) (hu : Has (nw H' H4) n u y) (hi : i < 1000) :
    ∃ acc, H4 D = some (.lst acc) ∧ acc.length < sizeLine ∧ CpT H0 D n ds (i + 1) (upd H4 D (.lst (acc ++ [u]))) := by
  obtain ⟨e0, us, h1, h2, h3⟩ := p
  refine ⟨us, e _ _ h1, small1000 (by omega), Ex.mut (e0.trans e) hD, us ++ [u], upd_same, by simp [h2], fun j x y' g1 g2 => ?_⟩
  by_cases hj : j < us.length
  · rw [List.getElem?_append_left hj] at g1
    refine (h3 j x y' g1 g2).ex fun b o z => ?_
    obtain ⟨z1, z2⟩ := dl_some z
    obtain ⟨z3, z4⟩ := nw_some z2
    exact dl_of z1 (nw_of z3 (by rw [upd_ne z1]; exact e _ _ z4))
  · have hl := (List.getElem?_eq_some_iff.mp g1).1
    simp at hl
    obtain rfl : j = i := by omega
    rw [List.getElem?_append_right (by omega)] at g1
    simp [h2] at g1
    subst g1
    rw [hy] at g2
    cases g2
    refine hu.ex fun b o z => ?_
    obtain ⟨z1, z2⟩ := nw_some z
    have nb : b ≠ D := fun q => by rw [q, h1] at z1; cases z1
    refine dl_of nb (nw_of ?_ (by rw [upd_ne nb]; exact z2))
    cases q : H0 b with
    | none => rfl
    | some u => rw [e0 _ _ q] at z1; cases z1
end
end K52

/-! lambdas that are kept (in a list), with no parameter or one with a constant default, and called later -/
namespace LamV
open PySem PySem.Spec PyProof.Rows L2 LamX
structure LF where
  qual : Str
  params : Arguments
  body : Expr
  scope : Scope
  cl : List (Str × Addr)
  c : Addr
  dV : Value
abbrev LF.fd (F : LF) (doc pm ctv : Value) : FuncData := PySem.W.kdv_fn "<lambda>" F.qual F.params (.expr F.body) F.scope F.cl F.dV doc pm (.ref F.c) ctv
/-- the function object at f -/
def LamO (f : Addr) (F : LF) : HO := .ext fun h => ∃ (od : Option Addr) (sl : Array (Option Value)) (doc pm ctv : Value), h.get? f = some (⟨.type "function", od, .func (F.fd doc pm ctv), sl⟩ : Obj)
/-- the tuple of one default -/
def ZeroO (T : Addr) : HO := .ext fun h => ∃ (o : Obj) (u : Value) (n : Nat), h.get? T = some o ∧ o.data = .seq #[u] n
def DfO (H : Hp) (v : Value) : Nat → Prop
  | 0 => v = .none
  | 1 => ∃ T, v = .ref T ∧ H T = some (ZeroO T)
  | _ => False
def LamAt (H : Hp) (f : Addr) (F : LF) : Prop := H f = some (LamO f F) ∧ H F.c = some (CodeO F.c F.qual) ∧ DfO H F.dV F.params.defaults.length
theorem DfO.ext {H H' : Hp} {v : Value} : ∀ {n : Nat}, DfO H v n → (∀ b o, H b = some o → (∀ ps, o ≠ .tbl ps) → H' b = some o) → DfO H' v n
  | 0, d, _ => d
  | 1, ⟨T, e, h⟩, k => ⟨T, e, k _ _ h fun ps z => by unfold ZeroO at z; cases z⟩
  | _ + 2, d, _ => d.elim
theorem LamAt.ext {H H' : Hp} {f : Addr} {F : LF} (L : LamAt H f F) (k : ExtN H H') : LamAt H' f F :=
  ⟨k _ _ L.1 (fun ps z => by unfold LamO at z; cases z), k _ _ L.2.1 codeO_ne, L.2.2.ext k⟩
theorem LamAt.ex {H H' : Hp} {f : Addr} {F : LF} (L : LamAt H f F) (k : ∀ b o, H b = some o → H' b = some o) : LamAt H' f F := L.ext (ExtN.of k)
theorem lamO_at {P : Program} {w : World} {H : Hp} {h : Heap} {f : Addr} {F : LF} (hok : HOk P w H h) (e : H f = some (LamO f F)) : ∃ (od : Option Addr) (sl : Array (Option Value)) (doc pm ctv : Value), h.get? f = some (⟨.type "function", od, .func (F.fd doc pm ctv), sl⟩ : Obj) := by
  obtain ⟨z, _, _⟩ := hok f _ e
  exact z
/-- how the lambda's parameters are bound -/
inductive BndP (params : Arguments) (body : Expr) (scope : Scope) : Prop
  | no (h0 : params.defaults = []) (h : ∀ q cl cv doc pm ctv, bindArgs (PySem.W.kdv_fn "<lambda>" q params (.expr body) scope cl .none doc pm cv ctv) ⟨[], []⟩ = pure [])
  | one (x : Str) (h0 : params.defaults.length = 1) (hx : scope.names.lookup x = some .local)
      (h : ∀ q cl T cv doc pm ctv, ∃ k, bindArgs (PySem.W.kdv_fn "<lambda>" q params (.expr body) scope cl (.ref T) doc pm cv ctv) ⟨[], []⟩ = (seqItems? (.ref T) >>= k) ∧ ∀ u, k (some #[u]) = pure [(x, u)])
/-- the lambda's names: no cell of its own, and no local one that the maker knows -/
structure LamS2 (N : List Str) (sc scope : Scope) : Prop where
  kind : scope.kind = .function
  co : scope.isCoroutine = false
  gen : scope.isGenerator = false
  own : ∀ y ∈ scope.names, y.2 ≠ .cell ∧ (y.2 = .local → y.1 ∉ N)
  free : ∀ y ∈ scope.names, y.2 = .free → sc.names.lookup y.1 = some .cell ∨ sc.names.lookup y.1 = some .free
def lamS2B (N : List Str) (sc scope : Scope) : Bool :=
  decide (scope.kind = .function) && !scope.isCoroutine && !scope.isGenerator && scope.names.all fun y => !decide (y.2 = .cell) && (!decide (y.2 = .local) || !decide (y.1 ∈ N)) && (!decide (y.2 = .free) || decide (sc.names.lookup y.1 = some .cell) || decide (sc.names.lookup y.1 = some .free))
theorem lamS2_by {N : List Str} {sc scope : Scope} (h : lamS2B N sc scope = true) : LamS2 N sc scope := by
  unfold lamS2B at h
  simp only [Bool.and_eq_true, Bool.or_eq_true, Bool.not_eq_true', decide_eq_true_eq, decide_eq_false_iff_not, List.all_eq_true] at h
  obtain ⟨⟨⟨h1, h2⟩, h3⟩, h4⟩ := h
  refine ⟨h1, h2, h3, fun y hy => ⟨(h4 y hy).1.1, fun e => ?_⟩, fun y hy e => ?_⟩
  · rcases (h4 y hy).1.2 with z | z
    · exact absurd e z
    · exact z
  · rcases (h4 y hy).2 with (z | z) | z
    · exact absurd e z
    · exact .inl z
    · exact .inr z
theorem LamS2.has {X : Cx} {scope : Scope} {N : List Str} (L : LamS2 N X.env.scope scope) (ok : X.Ok) : ∀ y ∈ scope.names, y.2 = .free → ∃ c, X.env.cells.lookup y.1 = some c := fun y hy e => by
  rcases L.free y hy e with k | k
  · exact ok.has _ (.inl k)
  · exact ok.has _ (.inr k)
/-- the context of the lambda's body over another base -/
def lamCxB (X : Cx) (base : Heap) (A : Around) (outer : List Env) (s : Shared) (H : Hp) (E : XK) (scope : Scope) (f c' : Addr) : Cx := { lamCx X A outer s H E scope f c' with base := base }
/-- what the lambda's body makes -/
structure LamTold (X : Cx) (k : Nat) (params : Arguments) (body : Expr) (scope : Scope) (t : XK → TE) : Prop where
  L : LamS2 X.N X.env.scope scope
  bind : BndP params body scope
  run : ∀ (base : Heap) (A : Around) (outer : List Env) (s : Shared) (H : Hp) (E : XK) (f c' : Addr), Room k (A.deeper (lamEnv X scope s.heap.objs.size f c')) → PE (lamCxB X base A outer s H E scope f c') body (t E)
/-- a call of the lambda, over a base -/
def LamRunB (P : Program) (w : World) (K : PySem.W.Frag) (mg : Str → Option Value) (base : Heap) (k : Nat) (f : Addr) (F : LF) (t : XK → Hp → VK → Prop) : Prop :=
  ∀ (A : Around) (outer : List Env) (s : Shared) (H : Hp) (Q : VK) (E : XK), Room k A → Env0 P w K mg base A outer s H → LamAt H f F → t E H Q → codeAny (model P w) A (.call (.ref f) ⟨[], []⟩) (CR (L2.CX P w) outer P w H s Q E) s
abbrev mkLF (X : Cx) (params : Arguments) (body : Expr) (scope : Scope) (c' : Addr) (dV : Value) : LF := ⟨X.env.qual ++ "<lambda>", params, body, scope, cloFrom X.env.cells scope.names [], c', dV⟩
section
variable {X : Cx} {pins : List (Addr × Obj)} {σ : L2.St} {H : Hp} {s : Shared}
/-- the tail of the making: its code object is new, or found in the table -/
theorem lam_tail {T : List (Addr × Str)} {c P : Addr} {params : Arguments} {body : Expr} {scope : Scope} {pos : Pos} {dV : Value} {E : Value → Shared → Prop} {Q : Value → Shared → Prop} (I : Inv X pins σ H s) (TB : TabB X.base X.mg c P) (hcode : X.env.code = .ref c)
    (hm : (P, X.env.qual ++ "<lambda>") ∈ T) (hu : ∀ p ∈ T, p.1 = P → p.2 = X.env.qual ++ "<lambda>") (hT : Tabs T H) (hfree : ∀ y ∈ scope.names, y.2 = .free → ∃ c, X.env.cells.lookup y.1 = some c) (hd : DfO H dV params.defaults.length)
    (h : ∀ (f c' : Addr) (H1 : Hp) (s' : Shared), Inv X pins σ H1 s' → ExtN H H1 → (∀ b, H1 b = none → H b = none) → Tabs T H1 → H f = none → LamAt H1 f (mkLF X params body scope c' dV) → Q (.ref f) s') :
    wpAny (model X.prog X.w) X.A (makeTail "<lambda>" (X.env.qual ++ "<lambda>") params (.expr body) scope X.env dV .none none pos pos.line) Q E s := by
  obtain ⟨ps, hP, ht, ha⟩ := hT _ hm
  have bP : s.heap.BuiltinsAt X.mg P := TB.bm.keeps I.bk
  have hP' : s.heap.get? P = some { cls := .none, data := .fields ps } := I.hok P _ hP
  have lay : ∀ {H1 : Hp} {h1 : Heap} {tk : Tok} {c' : Addr} {doc pm ctv : Value}, Inv X pins σ H1 { s with heap := h1, toks := tk } → 
      Inv X pins σ (upd H1 h1.objs.size (LamO h1.objs.size (mkLF X params body scope c' dV))) { s with heap := h1.push (PySem.W.kdv_obj "<lambda>" (X.env.qual ++ "<lambda>") params (.expr body) scope (cloFrom X.env.cells scope.names []) dV doc pm c' ctv), toks := tk } := fun {H1 h1 tk c' doc pm ctv} I1 => by
    refine I1.laid (a := h1.objs.size) (fun b u e => Heap.get?_push_of_some _ e) (Nat.le_refl _) ?_
    have e : (h1.push (PySem.W.kdv_obj "<lambda>" (X.env.qual ++ "<lambda>") params (.expr body) scope (cloFrom X.env.cells scope.names []) dV doc pm c' ctv)).get? h1.objs.size = some (PySem.W.kdv_obj "<lambda>" (X.env.qual ++ "<lambda>") params (.expr body) scope (cloFrom X.env.cells scope.names []) dV doc pm c' ctv) := Heap.get?_push_size _ rfl
    exact ⟨⟨_, _, doc, pm, ctv, e⟩, ⟨_, e⟩, fun h1 h2 ⟨od, sl, d, p, t, z⟩ st => ⟨od, sl, d, p, t, st _ z⟩⟩
  cases hc : codeAmong pos ps.toList with
  | none =>
    refine PySem.W.kdv_makeTail (mg := X.mg) (c := c) (P := P) (ps := ps) (closure_ok hfree) I.ok.glob (I.mod.glob.keeps I.bk) hcode (TB.code.keeps I.bk) hP' ht hc TB.gP bP fun c' ctv doc h' tk hx hge hlt hrec htb => ?_
    obtain ⟨c2, oc, vs, t, e2, hoc, hd', hv⟩ := hrec
    cases e2
    have nC : H c' = none := I.hok.fresh hge
    have I1 := inv_table (t' := tk) (more := #[rawInt pos.line, rawInt pos.col, .ref c']) (h' := h') I hP (fun b o hb e => hx b o hb e) htb hge ⟨oc, vs, t, hoc, hd', hv⟩
    have hE : ExtN H (upd (upd H P (.tbl (ps ++ #[rawInt pos.line, rawInt pos.col, .ref c']))) c' (CodeO c' (X.env.qual ++ "<lambda>"))) := fun b o e n => by
      rw [upd_ne (ne_of_none e nC), upd_ne (fun z => n ps (Option.some.inj (e.symm.trans (by rw [z]; exact hP))))]
      exact e
    have eL : (ps ++ #[rawInt pos.line, rawInt pos.col, .ref c']).toList = ps.toList ++ [rawInt pos.line, rawInt pos.col, .ref c'] := by simp
    have T1 : Tabs T (upd (upd H P (.tbl (ps ++ #[rawInt pos.line, rawInt pos.col, .ref c']))) c' (CodeO c' (X.env.qual ++ "<lambda>"))) := fun p hp => by
      by_cases hb : p.1 = P
      · rw [hu p hp hb, hb]
        refine ⟨_, by rw [upd_ne (ne_of_none hP nC), upd_same], by rw [eL]; exact PySem.TriplesOk_snoc _ _ _ _ ht, fun p' cv hcv => ?_⟩
        rw [eL] at hcv
        rcases among_app _ ht hcv with z | z
        · obtain ⟨c0, e1, e2⟩ := ha p' cv z
          exact ⟨c0, e1, hE _ _ e2 codeO_ne⟩
        · exact ⟨c', z, upd_same⟩
      · obtain ⟨ps', a1, a2, a3⟩ := hT p hp
        refine ⟨ps', by rw [upd_ne (ne_of_none a1 nC), upd_ne hb]; exact a1, a2, fun p' cv hcv => ?_⟩
        obtain ⟨c0, e1, e2⟩ := a3 p' cv hcv
        exact ⟨c0, e1, hE _ _ e2 codeO_ne⟩
    have nF := I1.hok.fresh (Nat.le_refl _)
    have I2 := lay (c' := c') (doc := doc) (pm := (X.mg "__name__").getD .none) (ctv := ctv) I1
    have eX : ∀ b o, upd (upd H P (.tbl (ps ++ #[rawInt pos.line, rawInt pos.col, .ref c']))) c' (CodeO c' (X.env.qual ++ "<lambda>")) b = some o → upd (upd (upd H P (.tbl (ps ++ #[rawInt pos.line, rawInt pos.col, .ref c']))) c' (CodeO c' (X.env.qual ++ "<lambda>"))) h'.objs.size (LamO h'.objs.size (mkLF X params body scope c' dV)) b = some o := fun b o e => (upd_ne (ne_of_none e nF)).trans e
    refine h h'.objs.size c' _ _ I2 (hE.trans (ExtN.of eX)) (fun b e => NdefX.upd_none (NdefX.upd_none (NdefX.upd_none e))) (T1.ext eX) (I.hok.fresh (Nat.le_trans hge (Nat.le_of_lt hlt))) ⟨upd_same, eX _ _ upd_same, hd.ext (hE.trans (ExtN.of eX))⟩
  | some cv =>
    obtain ⟨c', e, hco⟩ := ha pos cv hc
    subst e
    refine PySem.W.kdv_makeTailHit (mg := X.mg) (c := c) (P := P) (ps := ps) (closure_ok hfree) I.ok.glob (I.mod.glob.keeps I.bk) hcode (TB.code.keeps I.bk) hP' ht hc bP fun ctv doc h' tk hx hsz => ?_
    have I1 : Inv X pins σ H { s with heap := h', toks := tk } := I.kept hx
    have nF : H h'.objs.size = none := I1.hok.fresh (Nat.le_refl _)
    have I2 := lay (c' := c') (doc := doc) (pm := (X.mg "__name__").getD .none) (ctv := ctv) I1
    have eX : ∀ b o, H b = some o → upd H h'.objs.size (LamO h'.objs.size (mkLF X params body scope c' dV)) b = some o := fun b o e => (upd_ne (ne_of_none e nF)).trans e
    exact h h'.objs.size c' _ _ I2 (ExtN.of eX) (fun b e => NdefX.upd_none e) (hT.ext eX) nF ⟨upd_same, eX _ _ hco, hd.ext (ExtN.of eX)⟩
end
/-- the reading of a lambda: a new function -/
def tMkLam (T : List (Addr × Str)) (mk : Addr → Value → LF) : TE := fun σ H Q => Tabs T H ∧ ∀ (f c' : Addr) (dV : Value) (H1 : Hp), ExtN H H1 → (∀ b, H1 b = none → H b = none) → Tabs T H1 → H f = none → LamAt H1 f (mk c' dV) → Q (.ref f) H1
section
variable {X : Cx}
theorem pe_lam0 {T : List (Addr × Str)} {c P : Addr} {params : Arguments} {body : Expr} {scope : Scope} {lpos : Pos} (TB : TabB X.base X.mg c P) (hcode : X.env.code = .ref c) (hmT : (P, X.env.qual ++ "<lambda>") ∈ T) (hu : ∀ p ∈ T, p.1 = P → p.2 = X.env.qual ++ "<lambda>")
    (L : LamS2 X.N X.env.scope scope) (hd0 : params.defaults = []) (hdef : defaultsOf params X.env = ([], [])) : PE X (.Lambda params body scope lpos) (tMkLam T (mkLF X params body scope)) := by
  refine ⟨fun pins s σ H Q I h => ?_⟩
  obtain ⟨hT, h⟩ := h
  refine PySem.W.kla_eval hdef ?_
  rw [makeFunction_eq]
  simp only [List.zip_nil_right, List.filterMap_nil, List.isEmpty_nil, if_true, pure_bind]
  refine lam_tail I TB hcode hmT hu hT (L.has I.ok) (dV := .none) (by rw [hd0]; exact rfl) fun f c' H1 s' I1 e1 n1 T1 nf at1 => ?_
  exact ⟨.ref f, H1, I1, rfl, h f c' _ H1 e1 n1 T1 nf at1⟩
theorem pe_lam1 {T : List (Addr × Str)} {c P : Addr} {params : Arguments} {body d : Expr} {scope : Scope} {lpos : Pos} {v : V} (TB : TabB X.base X.mg c P) (hcode : X.env.code = .ref c) (hmT : (P, X.env.qual ++ "<lambda>") ∈ T) (hu : ∀ p ∈ T, p.1 = P → p.2 = X.env.qual ++ "<lambda>")
    (L : LamS2 X.N X.env.scope scope) (hd : params.defaults = [d]) (hk0 : params.kw_defaults = []) (he : PE X d (tC v)) : PE X (.Lambda params body scope lpos) (tMkLam T (mkLF X params body scope)) := by
  refine ⟨fun pins s σ H Q I h => ?_⟩
  obtain ⟨hT, h⟩ := h
  refine PySem.W.kdv_lam (by rw [hd]; rfl) hk0 ?_
  rw [hd]
  refine PySem.W.kdv_all1 (thn (he.run pins s σ H (fun v' H1 => H1 = H) I rfl) fun u s1 ⟨v', H1, I1, r1, q1⟩ => PySem.W.kdv_all0 ?_)
  subst q1
  rw [makeFunction_eq]
  simp only [List.zip_nil_right, List.filterMap_nil, List.isEmpty_nil, if_true, pure_bind, List.isEmpty_cons, Bool.false_eq_true, if_false]
  refine wpAny_bind (wpAny_newTextTuple ?_)
  have nT := I1.hok.fresh (Nat.le_refl s1.heap.objs.size)
  have e : (s1.heap.push ({ cls := .type "tuple", data := .seq [u].toArray } : Obj)).get? s1.heap.objs.size = some ({ cls := .type "tuple", data := .seq [u].toArray } : Obj) := Heap.get?_push_size _ rfl
  have I2 : Inv X pins σ (upd H1 s1.heap.objs.size (ZeroO s1.heap.objs.size)) { s1 with heap := s1.heap.push { cls := .type "tuple", data := .seq [u].toArray } } := by
    refine I1.laid (a := s1.heap.objs.size) (t' := s1.toks) (fun b u e => Heap.get?_push_of_some _ e) (Nat.le_refl _) ?_
    exact ⟨⟨_, u, _, e, rfl⟩, ⟨_, e⟩, fun h1 h2 ⟨o, u, n, z, y⟩ st => ⟨o, u, n, st _ z, y⟩⟩
  have eX : ∀ b o, H1 b = some o → upd H1 s1.heap.objs.size (ZeroO s1.heap.objs.size) b = some o := fun b o e => (upd_ne (ne_of_none e nT)).trans e
  refine lam_tail I2 TB hcode hmT hu (hT.ext eX) (L.has I.ok) (dV := .ref s1.heap.objs.size) (by rw [hd]; exact ⟨_, rfl, upd_same⟩) fun f c' H2 s' I3 e1 n1 T1 nf at1 => ?_
  exact ⟨.ref f, H2, I3, rfl, h f c' _ H2 ((ExtN.of eX).trans e1) (fun b z => NdefX.upd_none (n1 b z)) T1 (NdefX.upd_none nf) at1⟩
end
/-! ### a base of the very heap -/
def baseOf (h : Heap) (H : Hp) (l : List Env) : Heap := PySem.W.hideAll h (trk h H ++ frs l)
section
variable {X : Cx} {pins : List (Addr × Obj)} {σ : L2.St} {H : Hp} {s : Shared}
theorem baseOf_get {h : Heap} {H : Hp} {l : List Env} {b : Addr} {o : Obj} (e : h.get? b = some o) (n : H b = none) (hf : b ∉ frs l) : (baseOf h H l).get? b = some o :=
  PySem.W.hideAll_get _ e fun hm => by
    rcases List.mem_append.mp hm with hm | hm
    · have q : (H b).isSome = true := (List.mem_filter.mp hm).2
      rw [n] at q; simp at q
    · exact hf hm
theorem of_baseOf {h : Heap} {H : Hp} {l : List Env} {b : Addr} {o : Obj} (e : (baseOf h H l).get? b = some o) : h.get? b = some o ∧ H b = none := by
  have e' : h.get? b = some o := PySem.W.of_hideAll _ e
  refine ⟨e', ?_⟩
  cases q : H b with
  | none => rfl
  | some x =>
    have hm : b ∈ trk h H ++ frs l := List.mem_append_left _ (List.mem_filter.mpr ⟨List.mem_range.mpr (Heap.lt_size e'), by rw [q]; rfl⟩)
    have z : (baseOf h H l).get? b = none := PySem.W.hideAll_none _ hm
    rw [z] at e
    cases e
theorem frames_base {h base : Heap} {H : Hp} {l l' : List Env} (F : h.FunFrames base l') (hs : ∀ b ∈ frs l', b ∈ frs l) : h.FunFrames (baseOf h H l) l' := by
  induction l' with
  | nil => trivial
  | cons env rest ih =>
    obtain ⟨hk, ⟨L, o, hf, hn, ho, hd⟩, hr⟩ := F
    have sub : ∀ b ∈ frs rest, b ∈ frs l := fun b hb => hs b (by
      unfold frs
      rw [List.filterMap_cons, hf]
      exact List.mem_cons_of_mem _ hb)
    have hL : L ∈ frs l := hs L (by
      unfold frs
      rw [List.filterMap_cons, hf]
      exact List.mem_cons_self)
    exact ⟨hk, ⟨L, o, hf, PySem.W.hideAll_none _ (List.mem_append_right _ hL), ho, hd⟩, ih hr sub⟩
theorem base_in (I : Inv X pins σ H s) : ∀ b o, X.base.get? b = some o → (baseOf s.heap H X.stack).get? b = some o := fun b o e =>
  baseOf_get (I.bs b o e).1 (I.bs b o e).2 fun z => by
    have q := (I.stack.mem z).1
    rw [e] at q
    cases q
theorem env0_baseOf (I : Inv X pins σ H s) : Env0 X.prog X.w X.K X.mg (baseOf s.heap H X.stack) X.A X.stack s H := by
  have k := base_in I
  refine ⟨I.ok.frames, ⟨I.mod.kin.keeps k, I.mod.glob.keeps k, ?_, I.mod.nolimit.keeps k⟩, fun b o e => of_baseOf e, Nat.le_of_eq (PySem.W.hideAll_size _ _), frames_base I.stack fun _ z => z, I.stkFree, I.hok, I.bare⟩
  obtain ⟨mb, h1, h2⟩ := I.mod.blt
  exact ⟨mb, h1.keeps k, h2⟩
end

section
variable {X : Cx} {pins : List (Addr × Obj)} {σ : L2.St} {H HZ : Hp} {s s1 : Shared}
theorem lam_start3 {base : Heap} {A : Around} {outer : List Env} {E : XK} {scope : Scope} {f c' : Addr} {h₁ : Heap} {tk : Nat} {binds : List (Str × Value)} (I : Inv X pins σ H s) (L : LamS2 X.N X.env.scope scope) (e0 : Env0 X.prog X.w X.K X.mg base A outer s1 HZ) (hd : A.handled = none)
    (cellK : ∀ {c : Addr} {v : Option Value} {x : Str}, X.env.cells.lookup x = some c → s.heap.IsCell c v → h₁.IsCell c v) (cellN : ∀ {c : Addr} {x : Str}, X.env.cells.lookup x = some c → HZ c = none)
    (hns : h₁.Ns s1.heap.objs.size fun y => binds.reverse.lookup y) (kp : ∀ b o, s1.heap.get? b = some o → h₁.get? b = some o) :
    Inv (lamCxB X base A outer s1 HZ E scope f c') [] σ HZ { s1 with heap := h₁, toks := tk } := by
  have hfree := L.has I.ok
  have cm : ∀ {y c}, (cloFrom X.env.cells scope.names []).lookup y = some c → X.env.cells.lookup y = some c := fun {y c} e => by
    rcases cloFrom_mem (PySem.mem_of_lookup e) with hm | ⟨h1, h2⟩
    · cases hm
    · obtain ⟨c1, hc⟩ := hfree _ h1 rfl
      have hc : X.env.cells.lookup y = some c1 := hc
      have e2 : c = c1 := by
        rw [h2, hc] <;> rfl
      rw [e2]
      exact hc
  have look : ∀ {y}, scope.names.lookup y = some .free → ∃ c, (cloFrom X.env.cells scope.names []).lookup y = some c := fun {y} hl => by
    have hy : (y, NameKind.free) ∈ scope.names := PySem.mem_of_lookup hl
    exact mem_lookup (cloFrom_has (cells := X.env.cells) (acc := []) hy)
  have noA : ∀ b : Addr, b ∉ (lamCxB X base A outer s1 HZ E scope f c').ex := fun b z => absurd (show b ∈ ([] : List Addr) from z) (by simp)
  refine ⟨⟨e0.mod, L.kind, rfl, rfl, Nat.le_refl _, fun y z c e1 e2 => I.ok.inj y z c (cm e1) (cm e2), fun y hy => ?_, fun y c z _ => ?_, fun _ => hd, Around.frames_deeper e0.frames, .inr ⟨rfl, rfl⟩, fun b z => absurd z (noA b), e0.bs, e0.bsz, fun b _ _ => noA b,
      fun b z => absurd z (noA b), e0.funs, e0.frf⟩,
    rfl, e0.bare, Un.kept kp, ⟨_, hns, fun i y v e1 e2 e3 => ?_⟩, fun y c e => ?_, e0.hok.fresh (Nat.le_refl _), fun y c e => cellN (cm e), fun q hq => absurd (show q ∈ ([] : List (Addr × Obj)) ++ [] from hq) (by simp), e0.hok.kept kp, I.len⟩
  · have hy : scope.names.lookup y = some .cell ∨ scope.names.lookup y = some .free := hy
    rcases hy with hy | hy
    · exact absurd rfl (L.own _ (PySem.mem_of_lookup hy)).1
    · exact look hy
  · have z : false = true := z
    cases z
  · have e3 : Vis scope y := e3
    rcases e3 with k | k | k
    · exact absurd (List.mem_of_getElem? (show X.N[i]? = some y from e1)) ((L.own _ (PySem.mem_of_lookup k)).2 rfl)
    · exact absurd rfl (L.own _ (PySem.mem_of_lookup k)).1
    · obtain ⟨m, hn, hl⟩ := I.loc
      have hvis : Vis X.env.scope y := (L.free _ (PySem.mem_of_lookup k) rfl).elim (fun k => .inr (.inl k)) (fun k => .inr (.inr k))
      obtain ⟨w', r, q⟩ := hl i y v e1 e2 hvis
      obtain ⟨c2, h2⟩ := look k
      refine ⟨w', r, .inr ⟨.inr k, c2, h2, ?_⟩⟩
      have c1 := cm h2
      rcases q with ⟨k', _⟩ | ⟨_, c3, e', z⟩
      · have k' : X.env.scope.names.lookup y = some .local := k'
        rcases L.free _ (PySem.mem_of_lookup k) rfl with k2 | k2 <;> rw [show X.env.scope.names.lookup y = _ from k2] at k' <;> cases k'
      · rw [c1] at e'
        cases e'
        exact cellK c1 z
  · obtain ⟨w', z⟩ := I.cell y c (cm e)
    exact ⟨w', cellK (cm e) z⟩
/-- a call of the lambda from anywhere, the maker's state being (s, H) -/
theorem lam_runB {k : Nat} {params : Arguments} {body : Expr} {scope : Scope} {t : XK → TE} {c' : Addr} {dV : Value} {f : Addr} (I : Inv X pins σ H s) (hfn : ∀ x, X.fn x = true) (LT : LamTold X k params body scope t) :
    LamRunB X.prog X.w X.K X.mg (baseOf s.heap H X.stack) (k + 1) f (mkLF X params body scope c' dV) (fun E H' Q' => t E σ H' Q') := by
  intro A outer s1 H1 Q E hr e0 hat ht
  have L := LT.L
  obtain ⟨od, sl, doc, pm, ctv, of1⟩ := lamO_at e0.hok hat.1
  have hcd := NdefX.codeO_at e0.hok hat.2.1
  have lim : s1.heap.NoLimit := e0.mod.nolimit.keeps fun b o e => (e0.bs b o e).1
  have cst : ∀ {c : Addr} {x : Str}, X.env.cells.lookup x = some c → c ∉ frs X.stack := fun {c x} hc hm => by
    obtain ⟨v, oc, ho, hd⟩ := I.cell x c hc
    rcases List.mem_cons.mp (I.stkSub _ hm) with e | e
    · obtain ⟨m, ⟨o, es, ep, e1, e2, _⟩, _⟩ := I.loc
      rw [← e, ho] at e1
      cases e1
      rw [hd] at e2
      cases e2
    · have h1 := I.ok.cab x c (hfn x) hc
      obtain ⟨_, o', e', _⟩ := I.ok.funs.mem e
      exact Nat.lt_irrefl _ (Nat.lt_of_lt_of_le (Heap.lt_size e') h1)
  have cb : ∀ {c : Addr} {x : Str} {o : Obj}, X.env.cells.lookup x = some c → s.heap.get? c = some o → (baseOf s.heap H X.stack).get? c = some o := fun {c x o} hc ho => baseOf_get ho (I.freeC x c hc) (cst hc)
  have go : ∀ (binds : List (Str × Value)), BindsTo s1 ((mkLF X params body scope c' dV).fd doc pm ctv) ⟨[], []⟩ binds → (∀ y ∈ binds, scope.names.lookup y.1 = some .local) → codeAny (model X.prog X.w) A (.call (.ref f) ⟨[], []⟩) (CR (L2.CX X.prog X.w) outer X.prog X.w H1 s1 Q E) s1 := by
    intro binds hb hbl
    refine PySem.W.kla_callFunE hr.depth of1 rfl L.co L.gen rfl hcd (hb _ _ _ _ ?_)
    refine wpAny_newFunctionEnv (fun y hy => (L.own y hy).1) hbl (fun h₁ hns hsb => ⟨lim.fresh _ hsb, ?_⟩) L.kind
    show codeAny _ _ (.expr body (lamEnv X scope s1.heap.objs.size f c')) _ _
    have kp : ∀ b o, s1.heap.get? b = some o → h₁.get? b = some o := fun b o e => hsb.extBut b o (Nat.ne_of_lt (Heap.lt_size e)) (Heap.get?_push_of_some _ e)
    have J : Inv (lamCxB X (baseOf s.heap H X.stack) A outer s1 H1 E scope f c') [] σ H1 { s1 with heap := h₁, toks := s1.toks + binds.length } :=
      lam_start3 I L e0 hr.hd (fun {c v x} hc ⟨o, ho, hd⟩ => ⟨o, kp _ _ (e0.bs _ _ (cb hc ho)).1, hd⟩) (fun {c x} hc => by
        obtain ⟨v, o, ho, hd⟩ := I.cell x c hc
        exact (e0.bs _ _ (cb hc ho)).2) hns kp
    refine PySem.W.kla_codeExpr (wpAny_mono ((LT.run _ _ _ s1 H1 E f c' (hr.deeper _)).run [] _ _ H1 Q J ht) (fun v s' hq => ?_) fun e s' hq => hq)
    obtain ⟨w', H', J', rv, q⟩ := hq
    exact ⟨w', H', J'.os, J'.bare, J'.base, J'.hok, rv, q⟩
  have hdf : DfO H1 dV params.defaults.length := hat.2.2
  cases LT.bind with
  | no h0 h =>
    rw [h0] at hdf
    obtain rfl : dV = .none := hdf
    exact go [] (BindsTo.of_eq (h _ _ _ _ _ _)) (fun y hy => nomatch hy)
  | one x h0 hx h =>
    rw [h0] at hdf
    obtain ⟨T, rfl, hT⟩ := hdf
    obtain ⟨⟨o, u, n, ho, hs⟩, _, _⟩ := e0.hok T _ hT
    obtain ⟨kk, h1, h2⟩ := h (X.env.qual ++ "<lambda>") (cloFrom X.env.cells scope.names []) T (.ref c') doc pm ctv
    exact go [(x, u)] (BindsTo.of_defaults (T := T) rfl ho hs h1 (h2 u)) fun y hy => by
      obtain rfl := List.mem_singleton.mp hy
      exact hx
end
/-! ### the call -/
section
variable {X : Cx}
theorem pe_actB {f : Addr} {F : LF} {k i : Nat} {a : Str} {E : XK} {t : XK → Hp → VK → Prop} {p1 p2 : Pos} (R : LamRunB X.prog X.w X.K X.mg X.base k f F t) (hr : Room k X.A) (hx : Passes (L2.CX X.prog X.w) X E)
    (hN : X.N[i]? = some a) (hv : Vis X.env.scope a) (hd : (a == ("__debug__" : Str)) = false := by decide) (hcd : (a == ("__classdict__" : Str)) = false := by decide) :
    PE X (.Call (.Name a p1) [] [] p2) (fun σZ HZ Q => σZ[i]? = some (some (.ref f)) ∧ LamAt HZ f F ∧ t E HZ Q) := by
  refine ⟨fun pins s σ H Q I h => ?_⟩
  obtain ⟨hs, hat, ht⟩ := h
  refine wpAny_Call_Name_kw (thn ((pe_var (pos := p1) (i := i) hN hv hd hcd).run pins s σ H (fun v H1 => v = .ref f ∧ H1 = H) I ⟨.ref f, hs, rfl, rfl⟩) fun u s1 ⟨v, H1, I1, r1, q1⟩ => ?_)
  obtain ⟨ev, eH⟩ := q1
  subst ev
  subst eH
  obtain rfl : u = Value.ref f := r1
  obtain ⟨od, sl, doc, pm, ctv, of1⟩ := lamO_at I1.hok hat.1
  refine PySem.W.callWith_F0 ⟨_, _, _, _, of1⟩ ?_
  refine wpAny_call (codeAny_mono (R X.A X.stack s1 H1 Q E hr I1.env0 hat ht) fun r s' hq => ?_)
  cases r with
  | error e => exact hx pins σ H1 s1 e s' I1 hq
  | ok fl =>
    cases fl with
    | ret u => exact I1.after hq
    | next => exact False.elim hq
    | brk => exact False.elim hq
    | cont => exact False.elim hq
end
end LamV
namespace LamV
open PySem PySem.Spec PyProof.Rows L2 LamX
/-- f(..), the promise told over a base of the very heap, to which the maker's lambdas answer -/
def tCallB (X : Cx) (kk : Nat) (sp : Heap → Sp) (dvs : List V) (E : XK) (t : TA) : TE := fun σ H Q => t σ H fun vs H1 => ∀ base : Heap,
  (∀ {params : Arguments} {body : Expr} {scope : Scope} {te : XK → TE} {c' : Addr} {dV : Value} {f : Addr}, LamTold X kk params body scope te → LamRunB X.prog X.w X.K X.mg base (kk + 1) f (mkLF X params body scope c' dV) (fun E H' Q' => te E σ H' Q')) → sp base (vs ++ dvs) H1 Q E
section
variable {X : Cx} {CX : CXT} {k kk : Nat} {f C : Addr} {fd : FuncData} {ps : List Str} {sp : Heap → Sp} {dvs : List V} {ds : List Value} {E : XK} {x m : Str} {p pos apos : Pos} {e o : Expr} {es : List Expr} {ta : TE} {t : TA}
theorem pe_callB (F : ∀ base, FnOk X.prog X.w X.K X.mg base CX k f fd ps (sp base)) (hr : Room k X.A) (hg : Gl X x) (hm : X.mg x = some (.ref f)) (hk : PySem.W.keepIn X.K (.ref f) = true) (hb : Binds X.K fd ps ds) (hd : Vals dvs ds) (hx : Passes CX X E) (hfn : ∀ x, X.fn x = true)
    (ha : PA X (e :: es) t) (hdb : (x == ("__debug__" : Str)) = false := by decide) (he : starEach (e :: es) X.env = (false, eval e X.env) :: starEach es X.env := by rfl) (hpl : (backTo pos (starEach es X.env)).any (·.1) = false := by rfl) :
    PE X (.Call (.Name x p) (e :: es) [] pos) (tCallB X kk sp dvs E t) := by
  refine ⟨fun pins s σ H Q I h => ?_⟩
  refine wpAny_Call_Name_kw (ld_glob I hg hm ?_ hdb)
  refine PySem.W.callWith_K (h₀ := X.base) I.ok.mod.kin hk (thn (ha.run pos pins s σ H _ I h) fun us s1 ⟨vs, H1, I1, r, q⟩ => ⟨I1.kIn, ?_⟩) he hpl
  have h := q _ (fun LT => lam_runB I1 hfn LT)
  have r2 : Vals (vs ++ dvs) (us ++ ds) := r.append hd
  have hl : (us ++ ds).length = ps.length := by rw [← r2.length]; exact (F _).len _ _ _ _ h
  refine wpAny_call (codeAny_mono ((F _).run X.A X.stack s1 H1 ⟨us, []⟩ (us ++ ds) (vs ++ dvs) Q E hr (env0_baseOf I1) (hb s1 us I1.kIn hl) r2 h) fun r s' hq => ?_)
  cases r with
  | error e => exact hx pins σ H1 s1 e s' I1 hq
  | ok fl =>
    cases fl with
    | ret u => exact I1.after hq
    | next => exact False.elim hq
    | brk => exact False.elim hq
    | cont => exact False.elim hq
end
end LamV

/-! raise C() of an own class with an __init__ of its own -/
namespace L2
open PySem PySem.Spec PyProof.Rows OxK
section
variable {X : Cx}
theorem pmk_oex0 {CX : CXT} {x : Str} {C fI : Addr} {k : Nat} {fd : FuncData} {ps : List Str} {sp : Sp} {p pos : Pos} (T : OexC X.K C) (iC : PySem.W.findIn X.K (.ref C) "__init__" = some (some (.ref fI))) (tI : PySem.W.typeIn X.K (.ref fI) = some (.type "function"))
    (F1 : FnOk X.prog X.w X.K X.mg X.base CX k fI fd ps sp) (hr : Room (k + 1) X.A) (hb : Binds X.K fd ps []) (hx : Passes CX X (fun _ _ _ => False)) (hg : Gl X x) (hm : X.mg x = some (.ref C))
    (hdb : (x == ("__debug__" : Str)) = false := by decide) :
    PMk X (.Call (.Name x p) [] [] pos) (tMkO C sp [] tNil) := by
  intro pins s σ H Q I h
  obtain ⟨hz, q1⟩ := h
  obtain ⟨nm, q, N, bs, bm, sn, sub, ab, col, dd, k0, k1, k2, k3, k5, hC, hbm⟩ := T.cls
  refine wpAny_Call_Name_kw (ld_glob I hg hm ?_ hdb)
  refine PySem.W.callWith_K0 I.kIn T.kC ?_
  show wpAny _ _ (call (.ref C) []) _ _ _
  obtain ⟨hp, g, dr, tk, os⟩ := s
  have hsz : hp.objs.size ≤ hp.objs.size + 1 := Nat.le_succ _
  have hn : H (hp.objs.size + 1) = none := I.hok.fresh hsz
  have hq := q1 (hp.objs.size + 1) hn
  have kk : ∀ b o, hp.get? b = some o → ((hp.push (PySem.W.kdv_tup [])).push (PySem.HandSPX.excO C hp.objs.size)).get? b = some o := fun b o e => Heap.get?_push_of_some _ (Heap.get?_push_of_some _ e)
  have hget : ((hp.push (PySem.W.kdv_tup [])).push (PySem.HandSPX.excO C hp.objs.size)).get? (hp.objs.size + 1) = some (PySem.HandSPX.excO C hp.objs.size) := by heap_get
  have I2 : Inv X pins σ (upd H (hp.objs.size + 1) (exo (hp.objs.size + 1) C none)) ⟨(hp.push (PySem.W.kdv_tup [])).push (PySem.HandSPX.excO C hp.objs.size), g, dr, tk, os⟩ :=
    I.laid (t' := tk) (a := hp.objs.size + 1) (o := exo (hp.objs.size + 1) C none) (h' := (hp.push (PySem.W.kdv_tup [])).push (PySem.HandSPX.excO C hp.objs.size)) kk hsz (exo_ok hget)
  have r2 : Vals [V.ref (hp.objs.size + 1)] [Value.ref (hp.objs.size + 1)] := .cons rfl .nil
  have hl : ([Value.ref (hp.objs.size + 1)] ++ []).length = ps.length := F1.len _ _ _ _ hq
  refine wpAny_call (PySem.HandSPX.call_own F.excBase_ValueError (fun Y => PySem.HandSPX.refsVE_contains Y bm hbm) (I.kIn _ _ hC) (PySem.W.looks_findIn I.kIn iC) (fun self => PySem.W.bind_fn I.kIn self tI) (by decide)
    (codeAny_mono (F1.run _ X.stack _ _ ⟨[Value.ref (hp.objs.size + 1)], []⟩ ([Value.ref (hp.objs.size + 1)] ++ []) _ _ (fun _ _ _ => False) (hr.make C [] []) (I2.env0.make C [] []) (hb _ [Value.ref (hp.objs.size + 1)] I2.kIn hl) r2 hq) fun r s' hq' => ?_))
  cases r with
  | error er => exact hx pins σ _ _ er s' I2 hq'
  | ok fl =>
    cases fl with
    | ret u =>
      obtain ⟨v, H2, os2, bare2, un2, hok2, rv, ev, d, fs, ea, ed, hd1, q2⟩ := hq'
      subst ev
      obtain ⟨h2, g2, d2, t2, os'⟩ := s'
      exact ⟨rv, mk_end (raises_own T.exC T.tyC) I hsz kk un2 hok2 os2 bare2 ea ed hd1 q2⟩
    | next => exact False.elim hq'
    | brk => exact False.elim hq'
    | cont => exact False.elim hq'
end
/-- a promise without exceptions is one with them -/
theorem FnOk.any {P : Program} {w : World} {K : PySem.W.Frag} {mg : Str → Option Value} {base : Heap} {CX : CXT} {k : Nat} {f : Addr} {fd : FuncData} {ps : List Str} {sp : Sp} (F : FnOk P w K mg base C8.CX0 k f fd ps sp) : FnOk P w K mg base CX k f fd ps sp :=
  ⟨F.len, fun A outer s H args us vs Q E hr he hb hv h => codeAny_mono (F.run A outer s H args us vs Q E hr he hb hv h) fun r s' hq => match r, hq with
    | .error _, hq => False.elim hq
    | .ok (.ret _), hq => hq
    | .ok .next, hq => hq
    | .ok .brk, hq => hq
    | .ok .cont, hq => hq⟩
/-- either promise -/
theorem FnOk.or {P : Program} {w : World} {K : PySem.W.Frag} {mg : Str → Option Value} {base : Heap} {CX : CXT} {k : Nat} {f : Addr} {fd : FuncData} {ps : List Str} {sp sp' : Sp} (F : FnOk P w K mg base CX k f fd ps sp) (F' : FnOk P w K mg base CX k f fd ps sp') :
    FnOk P w K mg base CX k f fd ps (fun vs H Q E => sp vs H Q E ∨ sp' vs H Q E) :=
  ⟨fun vs H Q E h => h.elim (F.len vs H Q E) (F'.len vs H Q E), fun A outer s H args us vs Q E hr he hb hv h => h.elim (F.run A outer s H args us vs Q E hr he hb hv) (F'.run A outer s H args us vs Q E hr he hb hv)⟩
end L2

/-! own exceptions that are raised: their __init__s, the statement -/
namespace K52
open PySem L2 Evl OxK
/-- __init__ of an own exception with one field, within a raise -/
def spX (n : Nat) (C : Addr) (cn pn : Str) : Sp := fun vs H Q _ => ∃ (a : Addr) (v : V) (d : Dt) (H0 : Hp), vs = [.ref a, v] ∧ H0 a = none ∧ H = upd H0 a (exo a C none) ∧ Has H0 n v d ∧
  ∀ (v' : V) (dd : Addr) (H' : Hp), Ex H0 (dl a (dl dd H')) → H0 dd = none → dd ≠ a → H' a = some (exo a C (some dd)) → H' dd = some (exd dd [(pn, v'), ("tag", .str cn)]) → Has (dl a (dl dd (nw H0 H'))) n v' d → Q .non H'
def spX0 (C : Addr) (cn : Str) : Sp := fun vs H Q _ => ∃ (a : Addr) (H0 : Hp), vs = [.ref a] ∧ H0 a = none ∧ H = upd H0 a (exo a C none) ∧
  ∀ (dd : Addr) (H' : Hp), Ex H0 (dl a (dl dd H')) → H0 dd = none → dd ≠ a → H' a = some (exo a C (some dd)) → H' dd = some (exd dd [("tag", .str cn)]) → Q .non H'
/-- data on the way, from this very heap -/
def EvX (te : TE) (σ : L2.St) (H : Hp) (n : Nat) (d : Dt) : Prop := ∀ Q : VK, (∀ v H2, Ex H H2 → Has H2 n v d → Q v H2) → te σ H Q
/-- what the raiser's callers get -/
def Rz (n : Nat) (C : Addr) (cn pn : Str) (d : Dt) (H : Hp) (E : XK) : Prop := ∀ (dd : Addr) (H' : Hp) (v' : V), Ex H H' → H' dd = some (.xd [(pn, v'), ("tag", .str cn)]) → Has (nw H H') n v' d → E (.ref C) (some dd) H'
def Rz0 (C : Addr) (cn : Str) (H : Hp) (E : XK) : Prop := ∀ (dd : Addr) (H' : Hp), Ex H H' → H' dd = some (.xd [("tag", .str cn)]) → E (.ref C) (some dd) H'
theorem Rz.ex {n : Nat} {C : Addr} {cn pn : Str} {d : Dt} {H H1 : Hp} {E : XK} (h : Rz n C cn pn d H E) (e : Ex H H1) : Rz n C cn pn d H1 E := fun dd H' v' e' h1 h2 => h dd H' v' (e.trans e') h1 (h2.ex (nw_mono e))
theorem Rz0.ex {C : Addr} {cn : Str} {H H1 : Hp} {E : XK} (h : Rz0 C cn H E) (e : Ex H H1) : Rz0 C cn H1 E := fun dd H' e' => h dd H' (e.trans e')
section
variable {P : Program} {w : World} {K : PySem.W.Frag} {mg : Str → Option Value} {base : Heap} {f C : Addr} {fd : FuncData}
def t_initN (K : PySem.W.Frag) (n : Nat) (cn pn : Str) : TS := tSeq (tXst K "tag" (tVar 0) (tC (.str cn))) (tXst K pn (tVar 0) (tCall (spCpN n) [] E0 (tCons (tVar 1) tNil)))
theorem pure_initN (n : Nat) (cn pn : Str) (T : ExC K C) (nT : PySem.W.findIn K (.ref C) "tag" = some none) (nP : PySem.W.findIn K (.ref C) pn = some none) {vs : List V} {H : Hp} {Q : VK} {E : XK} (h : spX n C cn pn vs H Q E) :
    t_initN K n cn pn { nx := fun _ H' => Q .non H', rt := Q } (L2.start ["self", pn] vs) H := by
  obtain ⟨a, v, d, H0, rfl, ha, rfl, hv, k⟩ := h
  refine ⟨_, rfl, a, C, rfl, T, nT, .inl ⟨upd_same, fun dd hd nda => ?_⟩⟩
  have nd0 : H0 dd = none := by rw [upd_ne nda] at hd; exact hd
  have e1 : Ex H0 (upd (upd (upd H0 a (exo a C none)) dd (exd dd [("tag", .str cn)])) a (exo a C (some dd))) := fun b o z => by
    have nb : b ≠ a := ne_of_none z ha
    rw [upd_ne nb, upd_ne (ne_of_none z nd0), upd_ne nb]
    exact z
  have ed1 : (upd (upd (upd H0 a (exo a C none)) dd (exd dd [("tag", .str cn)])) a (exo a C (some dd))) dd = some (exd dd [("tag", .str cn)]) := by rw [upd_ne nda, upd_same]
  refine ⟨_, rfl, v, d, rfl, hv.ex e1, fun v' H1 x1 hv' => ?_⟩
  have x0 := e1.trans x1
  have hd1 := x1 dd _ ed1
  refine ⟨_, rfl, a, C, rfl, T, nP, .inr ⟨dd, [("tag", .str cn)], x1 _ _ upd_same, hd1, (by show 1 ≤ 900; decide), ?_⟩⟩
  have st : ∀ b o, b ≠ a → b ≠ dd → H1 b = some o → dl a (dl dd (upd H1 dd (exd dd [(pn, v'), ("tag", .str cn)]))) b = some o := fun b o n1 n2 z => dl_of n1 (dl_of n2 (by rw [upd_ne n2]; exact z))
  have st2 : ∀ b o, b ≠ a → b ≠ dd → H0 b = none → H1 b = some o → dl a (dl dd (nw H0 (upd H1 dd (exd dd [(pn, v'), ("tag", .str cn)])))) b = some o := fun b o n1 n2 n3 z => dl_of n1 (dl_of n2 (nw_of n3 (by rw [upd_ne n2]; exact z)))
  refine k v' dd _ (fun b o z => st b o (ne_of_none z ha) (ne_of_none z nd0) (x0 _ _ z)) nd0 nda (by rw [upd_ne nda.symm]; exact x1 _ _ upd_same) upd_same (hv'.ex fun b o z => ?_)
  obtain ⟨z1, z2⟩ := nw_some z
  have nba : b ≠ a := fun q => by rw [q, upd_same] at z1; cases z1
  have nbd : b ≠ dd := fun q => by rw [q, ed1] at z1; cases z1
  exact st2 b o nba nbd (fresh_back e1 z1) z2
theorem pure_initN0 (cn : Str) (T : ExC K C) (nT : PySem.W.findIn K (.ref C) "tag" = some none) {vs : List V} {H : Hp} {Q : VK} {E : XK} (h : spX0 C cn vs H Q E) :
    tXst K "tag" (tVar 0) (tC (.str cn)) { nx := fun _ H' => Q .non H', rt := Q } (L2.start ["self"] vs) H := by
  obtain ⟨a, H0, rfl, ha, rfl, k⟩ := h
  refine ⟨_, rfl, a, C, rfl, T, nT, .inl ⟨upd_same, fun d hd nda => ?_⟩⟩
  have nd0 : H0 d = none := by rw [upd_ne nda] at hd; exact hd
  refine k d _ (fun b o z => ?_) nd0 nda upd_same (by rw [upd_ne nda, upd_same])
  have nb : b ≠ a := ne_of_none z ha
  have nd : b ≠ d := ne_of_none z nd0
  exact dl_of nb (dl_of nd (by rw [upd_ne nb, upd_ne nd, upd_ne nb]; exact z))
end
/-! ### the statement -/
/-- what the top says of an own exception that is raised -/
structure RaC (K : PySem.W.Frag) (mg : Str → Option Value) (x : Str) (C fI : Addr) : Prop where
  oex : OexC K C
  exc : ExC K C
  tag : TagC K C
  ini : PySem.W.findIn K (.ref C) "__init__" = some (some (.ref fI))
  ty : PySem.W.typeIn K (.ref fI) = some (.type "function")
  mg : mg x = some (.ref C)
section
variable {X : Cx}
theorem ex_made {H0 H' : Hp} {a dd : Addr} {fs : List (Str × V)} (e : Ex H0 (dl a (dl dd H'))) : Ex H0 (upd (del H' a) dd (.xd fs)) := fun b o z => by
  obtain ⟨n1, z1⟩ := dl_some (e b o z)
  obtain ⟨n2, z2⟩ := dl_some z1
  rw [upd_ne n2, del_ne n1]
  exact z2
/-- raise C(e) -/
def tRz (n : Nat) (C : Addr) (cn pn : Str) (W : WX) (te : TE) : TS := fun _ σ H => tMkO C (spX n C cn pn) [] (tCons te tNil) σ H fun cls d H' => W cls d σ H'
def tRz0 (C : Addr) (cn : Str) (W : WX) : TS := fun _ σ H => tMkO C (spX0 C cn) [] tNil σ H fun cls d H' => W cls d σ H'
theorem ps_rz {x cn pn : Str} {C fI : Addr} {k n : Nat} {fd : FuncData} {W : WX} {te : TE} {e : Expr} {p pos pos' : Pos} (T : RaC X.K X.mg x C fI) (F1 : FnOk X.prog X.w X.K X.mg X.base CX0 k fI fd ["self", pn] (spX n C cn pn)) (hr : Room (k + 1) X.A) (hb : Binds X.K fd ["self", pn] [])
    (hc : X.calm = true) (tk : Takes X W) (hg : Gl X x) (he : PE X e te) (hdb : (x == ("__debug__" : Str)) = false := by decide) (hs : starEach [e] X.env = (false, eval e X.env) :: starEach [] X.env := by rfl) :
    PS X (.Raise (some (.Call (.Name x p) [e] [] pos)) none pos') (tRz n C cn pn W te) :=
  ps_raise hc tk (pmk_oex (p := p) (pos := pos) (dvs := []) T.oex T.ini T.ty F1 hr hb .nil C8.pass0 hg T.mg (pa_cons he pa_nil hs) hdb hs)
theorem ps_rz0 {x cn : Str} {C fI : Addr} {k : Nat} {fd : FuncData} {W : WX} {p pos pos' : Pos} (T : RaC X.K X.mg x C fI) (F1 : FnOk X.prog X.w X.K X.mg X.base CX0 k fI fd ["self"] (spX0 C cn)) (hr : Room (k + 1) X.A) (hb : Binds X.K fd ["self"] [])
    (hc : X.calm = true) (tk : Takes X W) (hg : Gl X x) (hdb : (x == ("__debug__" : Str)) = false := by decide) :
    PS X (.Raise (some (.Call (.Name x p) [] [] pos)) none pos') (tRz0 C cn W) :=
  ps_raise hc tk (pmk_oex0 (p := p) (pos := pos) T.oex T.ini T.ty F1 hr hb C8.pass0 hg T.mg hdb)
theorem rz_eh {n : Nat} {C : Addr} {cn pn : Str} {W : WX} {te : TE} {D : Ends} {σ : L2.St} {H : Hp} {d : Dt} (h : EvX te σ H n d)
    (q : ∀ (dd : Addr) (H' : Hp) (v' : V), Ex H H' → H' dd = some (.xd [(pn, v'), ("tag", .str cn)]) → Has (nw H H') n v' d → W (.ref C) (some dd) σ H') : tRz n C cn pn W te D σ H := by
  refine h _ fun v H1 e1 hv => ⟨(show 1 ≤ 1000 by decide), fun a na => ⟨a, v, d, H1, rfl, na, rfl, hv, fun v' dd H' e' nd nda h1 h2 hv' => ⟨rfl, dd, _, h1, h2, nd, ?_⟩⟩⟩
  refine q dd _ v' (e1.trans (ex_made e')) upd_same (hv'.ex fun b o z => ?_)
  obtain ⟨n1, z1⟩ := dl_some z
  obtain ⟨n2, z2⟩ := dl_some z1
  obtain ⟨z3, z4⟩ := nw_some z2
  exact nw_of (fresh_back e1 z3) (by rw [upd_ne n2, del_ne n1]; exact z4)
theorem rz_0 {C : Addr} {cn : Str} {W : WX} {D : Ends} {σ : L2.St} {H : Hp}
    (q : ∀ (dd : Addr) (H' : Hp), Ex H H' → H' dd = some (.xd [("tag", .str cn)]) → W (.ref C) (some dd) σ H') : tRz0 C cn W D σ H :=
  ⟨by decide, fun a na => ⟨a, H, rfl, na, rfl, fun dd H' e' nd nda h1 h2 => ⟨rfl, dd, _, h1, h2, nd, q dd _ (ex_made e') upd_same⟩⟩⟩
end
end K52

-- base: law_k04_whole_standard_forms
/-! data on the way, over growing heaps -/
namespace K52
open PySem L2 Evl OxK
section
variable {K : PySem.W.Frag} {te ta tb tl : TE} {tr : TA} {σ : L2.St} {H : Hp} {v : V} {d d2 : Dt} {ds : List Dt} {n : Nat} {x : Str} {rows : List (List Nat)} {m i : Nat} {p : Addr} {xs : List V}
def EvH (te : TE) (σ : L2.St) (H : Hp) (n : Nat) (d : Dt) : Prop := ∀ H1, Ex H H1 → ∀ Q : VK, (∀ v H2, Ex H1 H2 → Has H2 n v d → Q v H2) → te σ H1 Q
def EvHA (tr : TA) (σ : L2.St) (H : Hp) (n : Nat) (ds : List Dt) : Prop := ∀ H1, Ex H H1 → ∀ Q : List V → Hp → Prop, (∀ vs H2, Ex H1 H2 → HasL H2 n vs ds → Q vs H2) → tr σ H1 Q
theorem hasl_ex {H H' : Hp} (e : Ex H H') {n : Nat} : ∀ {vs : List V} {ds : List Dt}, HasL H n vs ds → HasL H' n vs ds
  | [], [], _ => True.intro
  | _ :: _, _ :: _, h => ⟨h.1.ex e, hasl_ex e h.2⟩
  | [], _ :: _, h => h.elim
  | _ :: _, [], h => h.elim
theorem hasl_app {H : Hp} {n : Nat} : ∀ {vs : List V} {ds : List Dt} {us : List V} {cs : List Dt}, HasL H n vs ds → HasL H n us cs → HasL H n (vs ++ us) (ds ++ cs)
  | [], [], _, _, _, h => h
  | _ :: _, _ :: _, _, _, h, h' => ⟨h.1, hasl_app h.2 h'⟩
  | [], _ :: _, _, _, h, _ => h.elim
  | _ :: _, [], _, _, h, _ => h.elim
theorem eh_v (h : Ev te σ H v) (k : Has H n v d) : EvH te σ H n d := fun H1 e1 Q q => h H1 e1 _ fun H2 e2 => q v H2 e2 (k.ex (e1.trans e2))
theorem eh_f (h : Ev te σ H v) (f : Flat v) : EvH te σ H n (.f v) := eh_v h (has_flat f n)
theorem eh_up (h : EvH te σ H n d) : EvH te σ H (n + 1) d := fun H1 e1 Q q => h H1 e1 _ fun v H2 e2 k => q v H2 e2 k.up
theorem eha_nil : EvHA tNil σ H n [] := fun H1 _ Q q => q [] H1 (Ex.refl _) True.intro
theorem eha_cons (h : EvH te σ H n d) (hr : EvHA tr σ H n ds) : EvHA (tCons te tr) σ H n (d :: ds) := fun H1 e1 Q q => h H1 e1 _ fun v H2 e2 h2 => hr H2 (e1.trans e2) _ fun vs H3 e3 h3 => q (v :: vs) H3 (e2.trans e3) ⟨h2.ex e3, h3⟩
theorem eh_lst (h : EvHA tr σ H n ds) (few : ds.length ≤ 1000 := by simp) : EvH (tLst tr) σ H (n + 1) (.l ds) := fun H1 e1 Q q => h H1 e1 _ fun vs H2 e2 hv => by
  have l := (hasl_at hv).1
  exact ⟨sz_of (by omega), fun p hp => q _ _ (e2.trans (Ex.new hp)) (has_of (hasl_ex (Ex.new hp) hv) upd_same (by omega))⟩
theorem eh_tup (h : EvHA tr σ H n ds) (few : ds.length ≤ 1000 := by simp) : EvH (tTup tr) σ H (n + 1) (.t ds) := fun H1 e1 Q q => h H1 e1 _ fun vs H2 e2 hv => by
  have l := (hasl_at hv).1
  refine ⟨sz_of (by omega), fun p hp => q _ _ (e2.trans (Ex.new hp)) (.inr ⟨p, vs, ds, rfl, .inr ⟨upd_same, rfl⟩, l, by omega, (hasl_at (hasl_ex (Ex.new hp) hv)).2⟩)⟩
theorem eh_rows (h : EvRows .lst te σ H rows) (few : rows.length ≤ 1000) (wide : ∀ row ∈ rows, row.length ≤ 1000) : EvH te σ H 2 (rowsD rows) := fun H1 e1 Q q => h H1 e1 _ fun D bs H2 nr =>
  q _ H2 nr.ex (has_rows nr.at_ nr.len few wide fun j b row h1 h2 => (nr.it j b row h1 h2).2.2)
/-- _law_same of two data -/
theorem ev_same {b : Bool} (ha : EvH ta σ H n d) (hb : EvH tb σ H n d2) (h : b = true ↔ d = d2) : Ev (tCall (spSame n) [] E0 (tCons ta (tCons tb tNil))) σ H (.bl b) := fun H1 e1 Q q =>
  ha H1 e1 _ fun v H2 e2 hv => hb H2 (e1.trans e2) _ fun w H3 e3 hw => ⟨v, w, d, d2, rfl, hv.ex e3, hw, fun b2 H4 hb2 e4 => by
    have z : b2 = b := by rw [Bool.eq_iff_iff]; exact hb2.trans h.symm
    subst z
    exact q H4 ((e2.trans e3).trans e4)⟩
/-- what is made anew each time -/
theorem eh_rep {k : Int} {ds : List Dt} (ha : EvHA tr σ H n ds) (hk0 : 0 ≤ k) (hk : k ≤ 10) (few : ds.length ≤ 100) (hb : ∀ H1, Ex H H1 → Ev tb σ H1 (.int k)) : EvH (tOp rRep (tLst tr) tb) σ H (n + 1) (.l (List.replicate k.toNat ds).flatten) := fun H1 e1 Q q =>
  ha H1 e1 _ fun vs H2 e2 hv => by
    have l := (hasl_at hv).1
    refine ⟨sz_of (by omega), fun p hp => hb (upd H2 p (.lst vs)) ((e1.trans e2).trans (Ex.new hp)) _ (Ex.refl _) _ fun H3 e3 => ?_⟩
    have lt : vs.length * k.toNat ≤ 100 * 10 := Nat.mul_le_mul (by omega) (by omega)
    refine ⟨p, k, vs, rfl, rfl, e3 _ _ upd_same, by omega, by omega, Nat.le_trans lt (by decide), fun p2 hp2 => ?_⟩
    refine q _ _ ((e2.trans (Ex.new hp)).trans (e3.trans (Ex.new hp2))) ?_
    have h1 := hasl_ex (((Ex.new hp).trans e3).trans (Ex.new hp2) : Ex H2 (upd H3 p2 (.lst (List.replicate k.toNat vs).flatten))) hv
    have h2 : ∀ (a : Nat), HasL (upd H3 p2 (.lst (List.replicate k.toNat vs).flatten)) n (List.replicate a vs).flatten (List.replicate a ds).flatten := by
      intro a
      induction a with
      | zero => exact True.intro
      | succ a ih =>
        rw [List.replicate_succ, List.replicate_succ, List.flatten_cons, List.flatten_cons]
        exact hasl_app h1 ih
    have l2 : (List.replicate k.toNat vs).flatten.length = k.toNat * vs.length := by simp
    rw [Nat.mul_comm] at lt
    exact has_of (h2 _) upd_same (by omega)
end
end K52

-- base: law_k02_machines_refused
/-! _law_try, _law_tries, told of lambdas that are kept -/
namespace K52
open PySem L2 L2H LamX LamV Evl OxK
/-- a lambda's reading -/
abbrev Tl := XK → Hp → VK → Prop
structure Ask where
  f : Addr
  F : LF
  t : Tl
/-- what _law_try wants of a lambda -/
abbrev AskR (P : Program) (w : World) (K : PySem.W.Frag) (mg : Str → Option Value) (base : Heap) (k : Nat) (x : Ask) : Prop := LamRunB P w K mg base k x.f x.F x.t
def TAsk (K : PySem.W.Frag) (C1 C2 C3 : Addr) (x : Ask) : Hp → VK → Prop := fun H Q => LamAt H x.f x.F ∧ TTry K C1 C2 C3 (fun E H' Q' => LamAt H' x.f x.F ∧ x.t E H' Q') H Q
def spTry (P : Program) (w : World) (K : PySem.W.Frag) (mg : Str → Option Value) (C1 C2 C3 : Addr) (k : Nat) (base : Heap) : Sp := fun vs H Q _ => ∃ x : Ask, vs = [.ref x.f] ∧ AskR P w K mg base k x ∧ TAsk K C1 C2 C3 x H Q
/-- one ask after the other; D: the list of the answers -/
def TChain (K : PySem.W.Frag) (C1 C2 C3 : Addr) (D a : Addr) (all : List V) (Q : VK) : List Ask → Hp → Prop
  | [], H => SqL K H a all ∧ Q (.ref D) H
  | x :: r, H => SqL K H a all ∧ TAsk K C1 C2 C3 x H fun v H' => ∃ acc, H' D = some (.lst acc) ∧ acc.length < sizeLine ∧ TChain K C1 C2 C3 D a all Q r (upd H' D (.lst (acc ++ [v])))
def spTries (P : Program) (w : World) (K : PySem.W.Frag) (mg : Str → Option Value) (C1 C2 C3 : Addr) (k : Nat) (base : Heap) : Sp := fun vs H Q _ => ∃ (a : Addr) (asks : List Ask), vs = [.ref a] ∧ SqL K H a (asks.map fun x => V.ref x.f) ∧ (∀ x ∈ asks, AskR P w K mg base k x) ∧
  ∀ D, H D = none → TChain K C1 C2 C3 D a (asks.map fun x => V.ref x.f) Q asks (upd H D (.lst []))
section
variable {P : Program} {w : World} {K : PySem.W.Frag} {mg : Str → Option Value} {base : Heap} {f fF C1 C2 C3 : Addr} {fd fdF : FuncData} {k : Nat}
theorem ok_try (F : FnP K "_law_try" sTry f fd) (FF : FnP K "_law_field" sFeld fF fdF) (gF : mg "_law_field" = some (.ref fF)) (kF : PySem.W.keepIn K (.ref fF) = true) (bF : Binds K fdF ["_law_e"] [])
    (g1 : mg "TeamError" = some (.ref C1)) (g2 : mg "Missing" = some (.ref C2)) (g3 : mg "NothingLeft" = some (.ref C3)) : FnOk P w K mg base CX0 (k + 4) f fd ["_law_ask"] (spTry P w K mg C1 C2 C3 k base) := by
  refine F.ok scTry (fun vs H Q E h => ?_) (fun cdv A outer s H vs Q E hr h => ?_)
  · obtain ⟨x, rfl, _⟩ := h
    rfl
  · obtain ⟨x, rfl, R, hat, ht⟩ := h
    have hrA : Room 3 A := ⟨hr.hd, by have := hr.dp; show A.depth + 3 * 3 + 5 < _; have q : A.depth + 1 + 3 * (k + 3) + 5 < recursionLimit := this; omega, by have := hr.un; have q : A.units + 3 + 16 * (k + 3) + 200 < cLine := this; omega⟩
    have G := try_gives (X := { cxOf CX0 P w K mg base ["_law_ask", "_law_e"] "_law_try" (defScope sTry) f cdv A outer s H E with A := A, stack := outer }) (k := k) (g := f) (cdg := cdv) (q := x.F.qual) FF gF kF bF g1 g2 g3 hrA
    obtain ⟨t, ht, hq⟩ := G x.f x.F.c s H Q (fun E H' Q' => LamAt H' x.f x.F ∧ x.t E H' Q') (fun W pn xe E2 p1 p2 tk hW => by
      have h := pe_actB (X := (cxOf CX0 P w K mg base ["_law_ask", "_law_e"] "_law_try" (defScope sTry) f cdv A outer s H E0).tr pn xe) (i := 0) (p1 := p1) (p2 := p2) R (hr.mono (by omega)) (passes_call tk hW) rfl (.inl rfl) (by decide) (by decide)
      refine ⟨fun pins s' σ H' Q' I h' => h.run pins s' σ H' Q' I ⟨h'.1, h'.2.2⟩⟩) hat.2.1 ht
    exact ⟨t, PSs.nox ht, hq⟩
theorem chain_sq {D a : Addr} {all : List V} {Q : VK} {H : Hp} : ∀ {l : List Ask}, TChain K C1 C2 C3 D a all Q l H → SqL K H a all
  | [], h => h.1
  | _ :: _, h => h.1
end
/-! ### answers that grow the heap alone -/
section
variable {P : Program} {w : World} {K : PySem.W.Frag} {mg : Str → Option Value} {C1 C2 C3 C : Addr} {k n : Nat} {H H0 : Hp} {d : Dt} {x : Ask} {cn pn tg : Str}
/-- the answer is the pair d -/
def AskEv (K : PySem.W.Frag) (C1 C2 C3 : Addr) (H0 : Hp) (n : Nat) (x : Ask) (d : Dt) : Prop := ∀ H' (Q' : VK), Ex H0 H' → (∀ v H'', Ex H' H'' → Has (nw H' H'') n v d → Q' v H'') → TAsk K C1 C2 C3 x H' Q'
theorem chain_ev {D a : Addr} {all : List V} {Q : VK} (hD0 : H0 D = none) (hsq : ∀ H', Ex H0 H' → SqL K H' a all) : ∀ (l : List Ask) (ds gs : List Dt) (acc : List V) (H : Hp), l.length = ds.length → gs.length + l.length ≤ 1000 → (∀ (i : Nat) (x : Ask) (d : Dt), l[i]? = some x → ds[i]? = some d → AskEv K C1 C2 C3 H0 n x d) →
    Ex H0 H → H D = some (.lst acc) → HasL (dl D (nw H0 H)) n acc gs → (∀ H' acc', Ex H0 H' → H' D = some (.lst acc') → HasL (dl D (nw H0 H')) n acc' (gs ++ ds) → Q (.ref D) H') → TChain K C1 C2 C3 D a all Q l H
  | [], [], gs, acc, H, _, _, _, e, hD, hg, q => ⟨hsq _ e, q H acc e hD (by rw [List.append_nil]; exact hg)⟩
  | x :: l, d :: ds, gs, acc, H, hl, few, ha, e, hD, hg, q => by
    refine ⟨hsq _ e, ha 0 x d rfl rfl H _ e fun v H' e' hv => ⟨acc, e' _ _ hD, small1000 (by have := (hasl_at hg).1; simp at few; omega), ?_⟩⟩
    have up : Ex (dl D (nw H0 H)) (dl D (nw H0 (upd H' D (.lst (acc ++ [v]))))) := fun b o z => by
      obtain ⟨z1, z2⟩ := dl_some z
      obtain ⟨z3, z4⟩ := nw_some z2
      exact dl_of z1 (nw_of z3 (by rw [upd_ne z1]; exact e' _ _ z4))
    have new : Ex (nw H H') (dl D (nw H0 (upd H' D (.lst (acc ++ [v]))))) := fun b o z => by
      obtain ⟨z1, z2⟩ := nw_some z
      have nb : b ≠ D := fun q => by rw [q, hD] at z1; cases z1
      refine dl_of nb (nw_of ?_ (by rw [upd_ne nb]; exact z2))
      cases q : H0 b with
      | none => rfl
      | some u => rw [e _ _ q] at z1; cases z1
    refine chain_ev hD0 hsq l ds (gs ++ [d]) (acc ++ [v]) _ (by simpa using hl) (by simp at few ⊢; omega) (fun i x d h1 h2 => ha (i + 1) x d (by simpa using h1) (by simpa using h2)) (Ex.mut (e.trans e') hD0) upd_same (hasl_app (hasl_ex up hg) ⟨hv.ex new, True.intro⟩) fun H2 acc2 e2 h2 h3 => q H2 acc2 e2 h2 (by simpa using h3)
  | [], _ :: _, _, _, _, h, _, _, _, _, _, _ => nomatch h
  | _ :: _, [], _, _, _, h, _, _, _, _, _, _ => nomatch h
/-- the asks raise, or tell -/
theorem ask_val (hat : LamAt H0 x.f x.F) (h : ∀ H' (Q : VK) (E : XK), Ex H0 H' → (∀ v H'', Ex H' H'' → Has (nw H' H'') n v d → Q v H'') → x.t E H' Q) : AskEv K C1 C2 C3 H0 (n + 1) x (.t [.f (.str "value"), d]) := fun H' Q' e q =>
  ⟨hat.ex e, hat.ex e, h H' _ _ e fun v H'' e' hv => ⟨(show 2 ≤ sizeLine by decide), fun p hp => q _ _ (e'.trans (Ex.new hp)) (.inr ⟨p, _, _, rfl, .inr ⟨nw_of (fresh_back e' hp) upd_same, rfl⟩, rfl, (show 2 ≤ 1000 by decide), fun i x y h1 h2 => by
    match i, h1, h2 with
    | 0, h1, h2 => cases h1; cases h2; exact has_s n
    | 1, h1, h2 => cases h1; cases h2; exact hv.ex (nw_up (Ex.new hp))⟩)⟩⟩
/-- what the top says of an error that _law_try catches by its first clause -/
structure ErrC (K : PySem.W.Frag) (C1 C : Addr) : Prop where
  tag : TagC K C
  is1 : PySem.W.exmOne K (.ref C) (.ref C1) = some true
theorem ask_rz (hat : LamAt H0 x.f x.F) (T : ErrC K C1 C) (hf : ∀ v' : V, fldV cn [(pn, v'), ("tag", .str cn)] = some v') (hp : (pn == ("tag" : Str)) = false) (h : ∀ H' (Q : VK) (E : XK), Ex H0 H' → Rz n C cn pn d H' E → x.t E H' Q) : AskEv K C1 C2 C3 H0 (n + 1) x (.t [.f (.str cn), d]) := fun H' Q' e q =>
  ⟨hat.ex e, hat.ex e, h H' _ _ e fun dd H2 v' e2 hd hv => ⟨C, dd, _, cn, v', rfl, T.tag, rfl, hd, (by
      rw [List.lookup_cons]
      have q : (("tag" : Str) == pn) = false := by
        rw [Bool.eq_false_iff] at hp ⊢
        intro z
        exact hp (by rw [beq_iff_eq] at z ⊢; exact z.symm)
      rw [q]
      rfl), .inl ⟨T.is1, hf v'⟩, fun p H3 hp e3 h3 => q _ _ (e2.trans e3) (.inr ⟨p, _, _, rfl, .inr ⟨nw_of (fresh_back e2 hp) h3, rfl⟩, rfl, (show 2 ≤ 1000 by decide), fun i x y h1 h2 => by
    match i, h1, h2 with
    | 0, h1, h2 => cases h1; cases h2; exact has_s n
    | 1, h1, h2 => cases h1; cases h2; exact hv.ex (nw_up e3)⟩)⟩⟩
theorem ask_rz0 (hat : LamAt H0 x.f x.F) (T : ErrC K C1 C) (hf : fldV cn [("tag", .str cn)] = some .non) (h : ∀ H' (Q : VK) (E : XK), Ex H0 H' → Rz0 C cn H' E → x.t E H' Q) : AskEv K C1 C2 C3 H0 (n + 1) x (.t [.f (.str cn), .f .non]) := fun H' Q' e q =>
  ⟨hat.ex e, hat.ex e, h H' _ _ e fun dd H2 e2 hd => ⟨C, dd, _, cn, .non, rfl, T.tag, rfl, hd, rfl, .inl ⟨T.is1, hf⟩, fun p H3 hp e3 h3 => q _ _ (e2.trans e3) (.inr ⟨p, _, _, rfl, .inr ⟨nw_of (fresh_back e2 hp) h3, rfl⟩, rfl, (show 2 ≤ 1000 by decide), fun i x y h1 h2 => by
    match i, h1, h2 with
    | 0, h1, h2 => cases h1; cases h2; exact has_s n
    | 1, h1, h2 => cases h1; cases h2; exact has_flat (v := .non) True.intro n⟩)⟩⟩
end
end K52

/-! the hook with the law's table of code objects; errors by one Bool -/
namespace K52
open PySem L2 L2H Evl OxK
theorem baZ {a b : Bool} (h : (a && b) = true) : a = true ∧ b = true := Bool.and_eq_true_iff.mp h
theorem tail_refs : ∀ l : List Value, PySem.W.excTail PySem.HandSPX.veTail l = true → PySem.HandSPX.refsVE l = true
  | .ref _ :: r, h => by
    rw [PySem.HandSPX.refsVE]
    exact tail_refs r (by rw [PySem.W.excTail] at h; exact h)
  | [], h => h
  | .none :: _, h => h
  | .bool _ :: _, h => h
  | .int _ _ :: _, h => h
  | .float _ _ :: _, h => h
  | .str _ _ :: _, h => h
  | .type _ :: _, h => h
  | .builtin _ :: _, h => h
/-- what is asked of an own error below ValueError -/
theorem oex_cls {K : PySem.W.Frag} {C : Addr} (q : PySem.W.excInitIn K C PySem.HandSPX.veTail "ValueError.__new__" = true) (hd : PySem.W.hasDictIn K C = true) :
    ∃ nm q N bs bm sn sub ab col dd k0 k1 k2 k3 k5, K.lookup C = some (excClassObj nm q C N bs bm true sn sub ab col dd k0 k1 k2 k3 k5 "ValueError.__new__") ∧ PySem.HandSPX.refsVE bm = true := by
  unfold PySem.W.excInitIn at q
  split at q
  · rename_i dd cd sl ho
    split at q
    · rename_i C' bm k0 k1 k2 k3 n k5 hm hs
      simp only [Bool.and_eq_true, beq_iff_eq, Bool.not_eq_true'] at q
      obtain ⟨⟨⟨rfl, rfl⟩, hdel⟩, ht⟩ := q
      have hdd : cd.hasDict = true := by
        have z : (PySem.W.clsIn K C').any (·.hasDict) = true := hd
        unfold PySem.W.clsIn at z
        rw [ho] at z
        exact z
      obtain ⟨nm, bs, mro, ns, qn, hd', sn, sub, ab, col, del⟩ := cd
      dsimp only at hm hdel hdd
      subst hm hdel hdd
      have hsl : sl = #[k0, k1, k2, k3, some (.builtin "ValueError.__new__"), k5] := by
        obtain ⟨l⟩ := sl
        simp only at hs
        rw [hs]
      subst hsl
      exact ⟨nm, qn, ns, bs, bm, sn, sub, ab, col, dd, k0, k1, k2, k3, k5, ho, tail_refs _ ht⟩
    · cases q
  · cases q
theorem raB_ok {K : PySem.W.Frag} {mg : Str → Option Value} {x : Str} {C : Addr} (h : raB K C = true) (hm : mg x = some (.ref C)) : RaC K mg x C (He.ma K C "__init__") := by
  unfold raB at h
  obtain ⟨h1, h⟩ := baZ h
  obtain ⟨h2, h⟩ := baZ h
  obtain ⟨h3, h⟩ := baZ h
  obtain ⟨h4, h⟩ := baZ h
  obtain ⟨h5, h⟩ := baZ h
  obtain ⟨h6, h⟩ := baZ h
  obtain ⟨h7, h⟩ := baZ h
  obtain ⟨h8, h⟩ := baZ h
  obtain ⟨h9, h⟩ := baZ h
  obtain ⟨h10, h⟩ := baZ h
  obtain ⟨h11, h12⟩ := baZ h
  exact ⟨⟨oex_cls h1 h3, of_decide_eq_true h4, of_decide_eq_true h7, of_decide_eq_true h8, h9⟩,
    ⟨⟨_, _, _, _, PySem.F.excBase_ValueError, PySem.F.store_ValueError, h1, h2⟩, h3, of_decide_eq_true h4, of_decide_eq_true h5, of_decide_eq_true h6, of_decide_eq_true h7, of_decide_eq_true h8, h9⟩,
    tagB_ok h10, of_decide_eq_true h11, of_decide_eq_true h12, hm⟩
theorem errB_ok {K : PySem.W.Frag} {C1 C : Addr} (h : errB K C1 C = true) : ErrC K C1 C := by
  obtain ⟨h1, h2⟩ := baZ h
  exact ⟨tagB_ok h1, of_decide_eq_true h2⟩
end K52

/-! the hook, over a written list of addresses -/

/-! what a law reads and writes beside its bag: data told of the heap without the bag -/
namespace K52
open PySem L2 L2H LamX LamV Evl OxK
section
variable {K : PySem.W.Frag} {te ta tb : TE} {tr : TA} {σ : L2.St} {H H' H1 H2 : Hp} {b l a : Addr} {ns : List Int} {v : V} {d d2 : Dt} {ds es : List Dt} {n i : Nat}
theorem dl_ex : Ex (dl b H) H := fun _ _ h => (dl_some h).2
theorem dl_up (e : Ex H H') : Ex (dl b H) (dl b H') := fun _ _ h => dl_of (dl_some h).1 (e _ _ (dl_some h).2)
theorem dl_exB (e : ExB b H H') : Ex (dl b H) (dl b H') := fun _ _ h => dl_of (dl_some h).1 (e _ _ (dl_some h).1 (dl_some h).2)
theorem dl_but (e : But b H H') : Ex (dl b H) (dl b H') := fun c o h => dl_of (dl_some h).1 (by rw [e c (dl_some h).1]; exact (dl_some h).2)
theorem exB_dl : ExB b H (dl b H) := fun _ _ n h => dl_of n h
theorem exB_of (e : Ex (dl b H) (dl b H')) : ExB b H H' := fun _ _ n h => (dl_some (e _ _ (dl_of n h))).2
theorem bag_some (B : Bag H b l ns) : H b ≠ none := by
  obtain ⟨_, _, _, i, j, s, h, _⟩ := B
  rw [h]
  exact fun z => nomatch z
theorem nw_dl (nb : H b ≠ none) : Ex (nw H H') (dl b H') := fun c o h => by
  obtain ⟨h1, h2⟩ := nw_some h
  exact dl_of (fun z => nb (by rw [← z]; exact h1)) h2
theorem dl_new {p : Addr} {o : HO} (nb : H b ≠ none) (hp : H p = none) : dl b (upd H p o) p = some o := dl_of (fun z => nb (by rw [← z]; exact hp)) upd_same
theorem up_ne (nb : H b ≠ none) (e : Ex H H') : H' b ≠ none := by
  cases h : H b with
  | none => exact absurd h nb
  | some o => rw [e _ _ h]; exact fun z => nomatch z
/-- data that an expression makes or reads, beside the bag at b -/
def VD (b : Addr) (te : TE) (σ : L2.St) (H : Hp) (n : Nat) (d : Dt) : Prop := ∀ H1, Ex (dl b H) (dl b H1) → H1 b ≠ none → ∀ Q : VK, (∀ v H2, Ex H1 H2 → Has (dl b H2) n v d → Q v H2) → te σ H1 Q
def VDA (b : Addr) (tr : TA) (σ : L2.St) (H : Hp) (n : Nat) (ds : List Dt) : Prop := ∀ H1, Ex (dl b H) (dl b H1) → H1 b ≠ none → ∀ Q : List V → Hp → Prop, (∀ vs H2, Ex H1 H2 → HasL (dl b H2) n vs ds → Q vs H2) → tr σ H1 Q
theorem VD.ex (h : VD b te σ H n d) (e : Ex (dl b H) (dl b H')) : VD b te σ H' n d := fun H1 e1 => h H1 (e.trans e1)
theorem VD.up (h : VD b te σ H n d) : VD b te σ H (n + 1) d := fun H1 e1 nb Q q => h H1 e1 nb _ fun v H2 e2 hv => q v H2 e2 hv.up
theorem vd_var (hv : σ[i]? = some (some v)) (h : Has (dl b H) n v d) : VD b (tVar i) σ H n d := fun H1 e1 _ Q q => ⟨v, hv, q v H1 (Ex.refl _) (h.ex e1)⟩
theorem vd_ev (h : Ev te σ (dl b H) v) (k : Has (dl b H) n v d) : VD b te σ H n d := fun H1 e1 nb Q q => h H1 (e1.trans dl_ex) _ fun H2 e2 => q v H2 e2 (k.ex (e1.trans (dl_up e2)))
theorem vd_f (h : Ev te σ (dl b H) v) (f : Flat v) : VD b te σ H n (.f v) := vd_ev h (has_flat f n)
theorem vda_nil : VDA b tNil σ H n [] := fun H1 _ _ Q q => q [] H1 (Ex.refl _) True.intro
theorem vda_cons (h : VD b te σ H n d) (hr : VDA b tr σ H n ds) : VDA b (tCons te tr) σ H n (d :: ds) := fun H1 e1 nb Q q =>
  h H1 e1 nb _ fun v H2 e2 h2 => hr H2 (e1.trans (dl_up e2)) (up_ne nb e2) _ fun vs H3 e3 h3 => q (v :: vs) H3 (e2.trans e3) ⟨h2.ex (dl_up e3), h3⟩
theorem has_lst {p : Addr} {vs : List V} (h : HasL H n vs ds) (hp : H p = some (.lst vs)) (few : ds.length ≤ 1000) : Has H (n + 1) (.ref p) (.l ds) := has_of h hp (by rw [(hasl_at h).1]; exact few)
theorem has_tup {p : Addr} {vs : List V} (h : HasL H n vs ds) (hp : H p = some (.tup vs)) (few : ds.length ≤ 1000) : Has H (n + 1) (.ref p) (.t ds) := .inr ⟨p, vs, ds, rfl, .inr ⟨hp, rfl⟩, (hasl_at h).1, by rw [(hasl_at h).1]; exact few, (hasl_at h).2⟩
theorem vd_lst (h : VDA b tr σ H n ds) (few : ds.length ≤ 1000 := by decide) : VD b (tLst tr) σ H (n + 1) (.l ds) := fun H1 e1 nb Q q => h H1 e1 nb _ fun vs H2 e2 hv => by
  have l := (hasl_at hv).1
  exact ⟨sz_of (by omega), fun p hp => q _ _ (e2.trans (Ex.new hp)) (has_lst (hasl_ex (dl_up (Ex.new hp)) hv) (dl_new (up_ne nb e2) hp) few)⟩
theorem vd_tup (h : VDA b tr σ H n ds) (few : ds.length ≤ 1000 := by decide) : VD b (tTup tr) σ H (n + 1) (.t ds) := fun H1 e1 nb Q q => h H1 e1 nb _ fun vs H2 e2 hv => by
  have l := (hasl_at hv).1
  exact ⟨sz_of (by omega), fun p hp => q _ _ (e2.trans (Ex.new hp)) (has_tup (hasl_ex (dl_up (Ex.new hp)) hv) (dl_new (up_ne nb e2) hp) few)⟩
/-- a list's (a tuple's) items -/
theorem has_l (h : Has H (n + 1) v (.l ds)) : ∃ (p : Addr) (vs : List V), v = .ref p ∧ H p = some (.lst vs) ∧ HasL H n vs ds ∧ ds.length ≤ 1000 := by
  rcases h with ⟨_, z⟩ | ⟨p, vs, es, rfl, ⟨hp, hd⟩ | ⟨hp, hd⟩, hl, few, hi⟩
  · cases z
  · cases hd
    refine ⟨p, vs, rfl, hp, ?_, by omega⟩
    clear hp few
    induction vs generalizing ds with
    | nil => cases ds with
      | nil => exact True.intro
      | cons => simp at hl
    | cons y vs ih => cases ds with
      | nil => simp at hl
      | cons d ds => exact ⟨hi 0 y d rfl rfl, ih (by simpa using hl) fun i x y h1 h2 => hi (i + 1) x y (by simpa using h1) (by simpa using h2)⟩
  · cases hd
theorem hasl_take {m : Nat} : ∀ {vs : List V} {ds : List Dt} {m : Nat}, HasL H n vs ds → HasL H n (vs.take m) (ds.take m)
  | [], [], _, _ => by simp [HasL]
  | _ :: _, _ :: _, 0, _ => True.intro
  | _ :: _, _ :: _, m + 1, h => ⟨h.1, hasl_take (m := m) h.2⟩
  | [], _ :: _, _, h => h.elim
  | _ :: _, [], _, h => h.elim
theorem hasl_drop : ∀ {vs : List V} {ds : List Dt} {m : Nat}, HasL H n vs ds → HasL H n (vs.drop m) (ds.drop m)
  | _, _, 0, h => h
  | [], [], _ + 1, _ => True.intro
  | _ :: _, _ :: _, m + 1, h => hasl_drop (m := m) h.2
  | [], _ :: _, _ + 1, h => h.elim
  | _ :: _, [], _ + 1, h => h.elim
theorem hasl_rep {m : Nat} {vs : List V} {ds : List Dt} (h : HasL H n vs ds) : HasL H n (List.replicate m vs).flatten (List.replicate m ds).flatten := by
  induction m with
  | zero => exact True.intro
  | succ m ih =>
    rw [List.replicate_succ, List.replicate_succ, List.flatten_cons, List.flatten_cons]
    exact hasl_app h ih
theorem vd_cat (ha : VD b ta σ H (n + 1) (.l ds)) (hb : VD b tb σ H (n + 1) (.l es)) (few : ds.length + es.length ≤ 1000) : VD b (tOp rCat ta tb) σ H (n + 1) (.l (ds ++ es)) := fun H1 e1 nb Q q =>
  ha H1 e1 nb _ fun v H2 e2 h2 => hb H2 (e1.trans (dl_up e2)) (up_ne nb e2) _ fun u H3 e3 h3 => by
    obtain ⟨p, vs, rfl, hp, hv, _⟩ := has_l (h2.ex (dl_up e3))
    obtain ⟨r, us, rfl, hr, hu, _⟩ := has_l h3
    have l1 := (hasl_at hv).1
    have l2 := (hasl_at hu).1
    exact ⟨p, r, vs, us, rfl, rfl, dl_ex _ _ hp, dl_ex _ _ hr, sz_of (by omega), fun x hx => q _ _ ((e2.trans e3).trans (Ex.new hx)) (has_lst (hasl_ex (dl_up (Ex.new hx)) (hasl_app hv hu)) (dl_new (up_ne nb (e2.trans e3)) hx) (by rw [List.length_append]; exact few))⟩
theorem vd_rep {k : Int} (ha : VD b ta σ H (n + 1) (.l ds)) (hb : Ev tb σ (dl b H) (.int k)) (k0 : 0 ≤ k) (few : ds.length * k.toNat ≤ 1000) (k1 : k ≤ 1000) : VD b (tOp rRep ta tb) σ H (n + 1) (.l (List.replicate k.toNat ds).flatten) := fun H1 e1 nb Q q =>
  ha H1 e1 nb _ fun v H2 e2 h2 => hb H2 ((e1.trans (dl_up e2)).trans dl_ex) _ fun H3 e3 => by
    obtain ⟨p, vs, rfl, hp, hv, _⟩ := has_l (h2.ex (dl_up e3))
    have l1 := (hasl_at hv).1
    exact ⟨p, k, vs, rfl, rfl, dl_ex _ _ hp, by omega, by omega, by rw [l1]; exact sz_of (Nat.le_trans few (by decide)), fun x hx => q _ _ ((e2.trans e3).trans (Ex.new hx)) (has_lst (hasl_ex (dl_up (Ex.new hx)) (hasl_rep hv)) (dl_new (up_ne nb (e2.trans e3)) hx) (by simp; rw [Nat.mul_comm]; exact few))⟩
/-- a draw out of new things -/
theorem vd_of {j : Nat} (B : Bag H b l ns) (hj : σ[j]? = some (some (.ref b))) (h : VDA b tr σ H n ds) (ne : 0 < ds.length) (few : ds.length ≤ 1000) {Q : VK}
    (q : ∀ (kk : Nat) (v : V) (d : Dt) (H2 : Hp), ds[kk]? = some d → Has (dl b H2) n v d → Bag H2 b l ns → Ex (dl b H) (dl b H2) → Q v H2) : tCall (spOf K) [] E0 (tCons (tVar j) (tCons (tLst tr) tNil)) σ H Q :=
  ⟨_, hj, h H (Ex.refl _) (bag_some B) _ fun vs H2 e2 hvs => ⟨sz_of (by have := (hasl_at hvs).1; omega), fun p hp => by
    have len := (hasl_at hvs).1
    have B2 := bag_ex B e2
    have pb : p ≠ b := fun z => bag_some B2 (by rw [← z]; exact hp)
    have e3 := Ex.new (o := .lst vs) hp
    refine ⟨b, l, p, ns, vs, rfl, SqL.of upd_same, by omega, by omega, pb, (fun H' hB => SqL.of (by rw [hB p pb, upd_same])), bag_ex B2 e3, fun kk v H4 hk B4 h4 => ?_⟩
    obtain ⟨d, hd⟩ : ∃ d, ds[kk]? = some d := ⟨_, List.getElem?_eq_getElem (by rw [← len]; exact (List.getElem?_eq_some_iff.mp hk).1)⟩
    exact q kk v d H4 hd ((((hasl_at hvs).2 kk v d hk hd).ex (dl_up e3)).ex (dl_but h4)) B4 ((dl_up (e2.trans e3)).trans (dl_but h4))⟩⟩
/-- a number drawn -/
theorem vd_pull {m : Int} {j : Nat} (B : Bag H b l ns) (hj : σ[j]? = some (some (.ref b))) (h : Ev te σ (dl b H) (.int m)) (m0 : 0 < m) (m1 : m < 1073741824) {Q : VK}
    (q : ∀ (r : Int) (H2 : Hp), 0 ≤ r → r < m → Bag H2 b l ns → Ex (dl b H) (dl b H2) → Q (.int r) H2) : tCall spPull [] E0 (tCons (tVar j) (tCons te tNil)) σ H Q :=
  ⟨_, hj, h H dl_ex _ fun H1 e1 => ⟨b, l, ns, m, rfl, m0, m1, bag_ex B e1, fun r H2 r0 r1 B2 h2 => q r H2 r0 r1 B2 ((dl_up e1).trans (dl_but h2))⟩⟩
/-- _law_same of two data -/
theorem vd_same {c : Bool} (ha : VD b ta σ H n d) (hb : VD b tb σ H n d2) (h : c = true ↔ d = d2) (nb : H b ≠ none) {Q : VK} (q : ∀ H2, Ex H H2 → Q (.bl c) H2) : tCall (spSame n) [] E0 (tCons ta (tCons tb tNil)) σ H Q :=
  ha H (Ex.refl _) nb _ fun v H2 e2 hv => hb H2 (dl_up e2) (up_ne nb e2) _ fun w H3 e3 hw => ⟨v, w, d, d2, rfl, (hv.ex (dl_up e3)).ex dl_ex, hw.ex dl_ex, fun b2 H4 hb2 e4 => by
    have z : b2 = c := by rw [Bool.eq_iff_iff]; exact hb2.trans h.symm
    subst z
    exact q H4 ((e2.trans e3).trans e4)⟩
end
/-! ### the answers of lambdas -/
section
variable {X : Cx} {C1 C2 C3 b : Addr} {kk n i : Nat} {σ : L2.St} {H H' : Hp} {ds : List Dt}
theorem AskEv.ex {K : PySem.W.Frag} {H0 H1 : Hp} {x : Ask} {d : Dt} (h : AskEv K C1 C2 C3 H0 n x d) (e : Ex H0 H1) : AskEv K C1 C2 C3 H1 n x d := fun H' Q' e' => h H' Q' (e.trans e')
/-- what the caller knows of its own lambdas over the base -/
abbrev OwnR (X : Cx) (kk : Nat) (σ : L2.St) (base : Heap) : Prop := ∀ {params : Arguments} {body : Expr} {scope : Scope} {te : XK → TE} {c' : Addr} {dV : Value} {f : Addr}, LamTold X kk params body scope te → LamRunB X.prog X.w X.K X.mg base (kk + 1) f (mkLF X params body scope c' dV) (fun E H' Q' => te E σ H' Q')
theorem hasl_nw {K : PySem.W.Frag} {D : Addr} {H1 H2 : Hp} {vs : List V} (nb : H1 b ≠ none) (h : HasL (dl D (nw H1 H2)) n vs ds) : HasL (dl b H2) n vs ds := hasl_ex (fun c o z => nw_dl nb c o (dl_some z).2) h
theorem vd_tries {asks : List Ask} {a : Addr} (hi : σ[i]? = some (some (.ref a))) (ha : (dl b H) a = some (.lst (asks.map fun x => V.ref x.f))) (R : ∀ base, OwnR X kk σ base → ∀ x ∈ asks, AskR X.prog X.w X.K X.mg base (kk + 1) x) (len : asks.length = ds.length) (few : ds.length ≤ 1000)
    (h : ∀ (i : Nat) (x : Ask) (d : Dt), asks[i]? = some x → ds[i]? = some d → AskEv X.K C1 C2 C3 (dl b H) n x d) : VD b (tCallB X kk (spTries X.prog X.w X.K X.mg C1 C2 C3 (kk + 1)) [] E0 (tCons (tVar i) tNil)) σ H (n + 1) (.l ds) := fun H1 e1 nb Q q =>
  ⟨_, hi, fun base hL => ⟨a, asks, rfl, SqL.of (dl_ex _ _ (e1 _ _ ha)), R base hL, fun D hD => by
    refine chain_ev (H0 := H1) hD (fun H' e' => SqL.of (e' _ _ (dl_ex _ _ (e1 _ _ ha)))) asks ds [] [] _ len (by simpa using len ▸ few) (fun i x d h1 h2 => (h i x d h1 h2).ex (e1.trans dl_ex)) (Ex.new hD) upd_same True.intro fun H' acc' e' h1 h2 => q _ H' e' ?_
    exact has_lst (hasl_nw (K := X.K) nb (by simpa using h2)) (dl_of (fun z => nb (by rw [← z]; exact hD)) h1) few⟩⟩
theorem vd_try {x : Ask} {te : TE} {d : Dt} (hx : ∀ H1, Ex (dl b H) (dl b H1) → H1 b ≠ none → ∀ Q : VK, (∀ (x : Ask) H2, Ex H1 H2 → (∀ base, OwnR X kk σ base → AskR X.prog X.w X.K X.mg base (kk + 1) x) → AskEv X.K C1 C2 C3 H2 n x d → Q (.ref x.f) H2) → te σ H1 Q) :
    VD b (tCallB X kk (spTry X.prog X.w X.K X.mg C1 C2 C3 (kk + 1)) [] E0 (tCons te tNil)) σ H n d := fun H1 e1 nb Q q =>
  hx H1 e1 nb _ fun x H2 e2 R A => fun base hL => ⟨x, rfl, R base hL, A H2 Q (Ex.refl _) fun v H3 e3 hv => q v H3 (e2.trans e3) (hv.ex (nw_dl (up_ne nb e2)))⟩
end
end K52

/-! data beside the bag: indexes, slices; lambdas that a law lists -/
namespace K52
open PySem L2 L2H LamX LamV Evl OxK
theorem Has.extN {H H' : Hp} (e : ExtN H H') : ∀ {n : Nat} {v : V} {d : Dt}, Has H n v d → Has H' n v d
  | 0, v, d, h => (show Flat v ∧ d = .f v from h)
  | n + 1, _, _, h => by
    rcases h with h | ⟨a, vs, ds, r, hk, hl, hb, hi⟩
    · exact .inl h
    · refine .inr ⟨a, vs, ds, r, ?_, hl, hb, fun i x y h1 h2 => Has.extN e (hi i x y h1 h2)⟩
      rcases hk with ⟨h1, h2⟩ | ⟨h1, h2⟩
      · exact .inl ⟨e _ _ h1 (fun _ z => nomatch z), h2⟩
      · exact .inr ⟨e _ _ h1 (fun _ z => nomatch z), h2⟩
section
variable {K : PySem.W.Frag} {te ta tb : TE} {tr : TA} {σ : L2.St} {H H' H1 H2 : Hp} {b l a : Addr} {ns : List Int} {v : V} {d d2 : Dt} {ds es : List Dt} {n i : Nat}
theorem dl_extN (e : ExtN H H') : ExtN (dl b H) (dl b H') := fun c o h n => dl_of (dl_some h).1 (e _ _ (dl_some h).2 n)
theorem bag_extN (B : Bag H b l ns) (e : ExtN H H') : Bag H' b l ns := by
  obtain ⟨h1, h2, h3, i, j, s, h4, h5⟩ := B
  exact ⟨h1, e _ _ h2 (fun _ z => nomatch z), h3, i, j, s, e _ _ h4 (fun _ z => nomatch z), h5⟩
theorem has_t (h : Has H (n + 1) v (.t ds)) : ∃ (p : Addr) (vs : List V), v = .ref p ∧ H p = some (.tup vs) ∧ HasL H n vs ds ∧ ds.length ≤ 1000 := by
  rcases h with ⟨_, z⟩ | ⟨p, vs, es, rfl, ⟨hp, hd⟩ | ⟨hp, hd⟩, hl, few, hi⟩
  · cases z
  · cases hd
  · cases hd
    refine ⟨p, vs, rfl, hp, ?_, by omega⟩
    clear hp few
    induction vs generalizing ds with
    | nil => cases ds with
      | nil => exact True.intro
      | cons => simp at hl
    | cons y vs ih => cases ds with
      | nil => simp at hl
      | cons d ds => exact ⟨hi 0 y d rfl rfl, ih (by simpa using hl) fun i x y h1 h2 => hi (i + 1) x y (by simpa using h1) (by simpa using h2)⟩
theorem hasl_get : ∀ {vs : List V} {ds : List Dt} {i : Nat} {d : Dt}, HasL H n vs ds → ds[i]? = some d → ∃ v, vs[i]? = some v ∧ Has H n v d
  | [], [], _, _, _, h => nomatch h
  | v :: _, _ :: _, 0, _, h, e => by cases e; exact ⟨v, rfl, h.1⟩
  | _ :: _, _ :: _, i + 1, _, h, e => by
    obtain ⟨v, h1, h2⟩ := hasl_get (i := i) h.2 (by simpa using e)
    exact ⟨v, by simpa using h1, h2⟩
  | [], _ :: _, _, _, h, _ => h.elim
  | _ :: _, [], _, _, h, _ => h.elim
def cutD (xs : List Dt) (lo hi : Option Int) : List Dt := (xs.drop (HT.sIx xs.length 0 lo)).take (HT.sIx xs.length xs.length hi - HT.sIx xs.length 0 lo)
theorem cutD_lo (ds : List Dt) (k : Nat) : cutD ds (some (k : Int)) none = ds.drop k := by
  unfold cutD
  have e : HT.sIx ds.length 0 (some ((k : Nat) : Int)) = min k ds.length := HT.sIx_nat _ _ k
  have e2 : HT.sIx ds.length ds.length none = ds.length := rfl
  rw [e, e2, List.take_of_length_le (by rw [List.length_drop]; omega)]
  by_cases h : k ≤ ds.length
  · rw [Nat.min_eq_left h]
  · rw [Nat.min_eq_right (by omega), List.drop_length, List.drop_eq_nil_of_le (by omega)]
theorem cutD_hi (ds : List Dt) (k : Nat) : cutD ds none (some (k : Int)) = ds.take k := by
  unfold cutD
  have e : HT.sIx ds.length ds.length (some ((k : Nat) : Int)) = min k ds.length := HT.sIx_nat _ _ k
  have e2 : HT.sIx ds.length 0 none = 0 := rfl
  rw [e, e2, List.drop_zero, Nat.sub_zero]
  by_cases h : k ≤ ds.length
  · rw [Nat.min_eq_left h]
  · rw [Nat.min_eq_right (by omega), List.take_length, List.take_of_length_le (by omega)]
theorem vd_ixT {z : Int} (h : VD b ta σ H (n + 1) (.t ds)) (hb : Ev tb σ (dl b H) (.int z)) (hz : z = (i : Int)) (hd : ds[i]? = some d) : VD b (tOp (rIxT K) ta tb) σ H n d := fun H1 e1 nb Q q =>
  h H1 e1 nb _ fun v H2 e2 h2 => hb H2 ((e1.trans (dl_up e2)).trans dl_ex) _ fun H3 e3 => by
    obtain ⟨p, vs, rfl, hp, hv, _⟩ := has_t (h2.ex (dl_up e3))
    obtain ⟨x, hx, hh⟩ := hasl_get hv hd
    subst hz
    exact ⟨p, vs, _, x, rfl, rfl, SqT.of (dl_ex _ _ hp), atI_nat hx, q x H3 (e2.trans e3) hh⟩
theorem vd_ixL {z : Int} (h : VD b ta σ H (n + 1) (.l ds)) (hb : Ev tb σ (dl b H) (.int z)) (hz : z = (i : Int)) (hd : ds[i]? = some d) : VD b (tOp (rIxL K) ta tb) σ H n d := fun H1 e1 nb Q q =>
  h H1 e1 nb _ fun v H2 e2 h2 => hb H2 ((e1.trans (dl_up e2)).trans dl_ex) _ fun H3 e3 => by
    obtain ⟨p, vs, rfl, hp, hv, _⟩ := has_l (h2.ex (dl_up e3))
    obtain ⟨x, hx, hh⟩ := hasl_get hv hd
    subst hz
    exact ⟨p, vs, _, x, rfl, rfl, SqL.of (dl_ex _ _ hp), atI_nat hx, q x H3 (e2.trans e3) hh⟩
/-- the end of a slice -/
def EvO (to : TO) (σ : L2.St) (H : Hp) (o : Option Int) : Prop := ∀ H1, Ex H H1 → ∀ Q : Option Int → Hp → Prop, (∀ H2, Ex H1 H2 → Q o H2) → to σ H1 Q
theorem eo_no : EvO tNoPart σ H none := fun H1 _ Q q => q H1 (Ex.refl _)
theorem eo_int {z : Int} (h : Ev te σ H (.int z)) : EvO (tPart te) σ H (some z) := fun H1 e1 Q q => h H1 e1 _ fun H2 e2 => ⟨z, rfl, q H2 e2⟩
theorem vd_sl {tlo thi : TO} {lo hi : Option Int} (h : VD b ta σ H (n + 1) (.l ds)) (hlo : EvO tlo σ (dl b H) lo) (hhi : EvO thi σ (dl b H) hi) : VD b (tSl (rSlL K) ta tlo thi) σ H (n + 1) (.l (cutD ds lo hi)) := fun H1 e1 nb Q q =>
  h H1 e1 nb _ fun v H2 e2 h2 => hlo H2 ((e1.trans (dl_up e2)).trans dl_ex) _ fun H3 e3 => hhi H3 ((e1.trans (dl_up (e2.trans e3))).trans dl_ex) _ fun H4 e4 => by
    obtain ⟨p, vs, rfl, hp, hv, fw⟩ := has_l (h2.ex (dl_up (e3.trans e4)))
    have ln := (hasl_at hv).1
    refine ⟨p, vs, rfl, SqL.of (dl_ex _ _ hp), fun x hx => q _ _ (((e2.trans e3).trans e4).trans (Ex.new hx)) (has_lst (hasl_ex (dl_up (Ex.new hx)) ?_) (dl_new (up_ne nb ((e2.trans e3).trans e4)) hx) ?_)⟩
    · unfold cutV cutD
      rw [ln]
      exact hasl_take (m := 0) (hasl_drop hv)
    · unfold cutD
      rw [List.length_take, List.length_drop]
      omega
theorem cutD_last (ds : List Dt) (d : Dt) : cutD (ds ++ [d]) none (some (-1)) = ds := by
  unfold cutD
  have e : HT.sIx (ds ++ [d]).length (ds ++ [d]).length (some (-1)) = ds.length := by
    have z : HT.sIx (ds ++ [d]).length (ds ++ [d]).length (some (-1)) = ((-1 : Int) + ((ds ++ [d]).length : Int)).toNat := if_pos (c := (-1 : Int) < 0) (e := min (-1 : Int).toNat (ds ++ [d]).length) (by decide)
    rw [z]
    simp
    omega
  have e2 : HT.sIx (ds ++ [d]).length 0 none = 0 := rfl
  rw [e, e2, List.drop_zero, Nat.sub_zero]
  simp
theorem vd_c {v : V} (f : Flat v := by exact True.intro) : VD b (tC v) σ H n (.f v) := vd_f ev_c f
theorem vd_if {c : Bool} {tt : TT} (h : EvT tt σ (dl b H) c) (h1 : c = true → VD b ta σ H n d) (h2 : c = false → VD b tb σ H n d) : VD b (tIf tt ta tb) σ H n d := fun H1 e1 nb Q q => h H1 (e1.trans dl_ex) _ fun H2 e2 => by
  have q2 : ∀ v H3, Ex H2 H3 → Has (dl b H3) n v d → Q v H3 := fun v H3 e3 hv => q v H3 (e2.trans e3) hv
  cases c with
  | true => exact iteT (h1 rfl H2 (e1.trans (dl_up e2)) (up_ne nb e2) Q q2)
  | false => exact iteF (h2 rfl H2 (e1.trans (dl_up e2)) (up_ne nb e2) Q q2)
theorem VD.cast (h : VD b te σ H n d) (e : d = d2) : VD b te σ H n d2 := e ▸ h
theorem cutD_lo' {k : Nat} (ds : List Dt) (z : Int) (h : z = (k : Int)) : cutD ds (some z) none = ds.drop k := by rw [h, cutD_lo]
theorem cutD_hi' {k : Nat} (ds : List Dt) (z : Int) (h : z = (k : Int)) : cutD ds none (some z) = ds.take k := by rw [h, cutD_hi]
theorem cutD_len (ds : List Dt) (lo hi : Option Int) : (cutD ds lo hi).length ≤ ds.length := by
  unfold cutD
  rw [List.length_take, List.length_drop]
  omega
theorem ev_addI {i j : Int} (ha : Ev ta σ H (.int i)) (hb : Ev tb σ H (.int j)) : Ev (tOp (rI0 fun i j => .int (i + j)) ta tb) σ H (.int (i + j)) := fun H1 e Q q => ha H1 e _ fun H2 e2 => hb H2 (e.trans e2) _ fun H3 e3 => ⟨i, j, rfl, rfl, q H3 (e2.trans e3)⟩
theorem ev_negI {i : Int} (ha : Ev ta σ H (.int i)) : Ev (tUn (rU fun i => .int (-i)) ta) σ H (.int (-i)) := fun H1 e Q q => ha H1 e _ fun H2 e2 => ⟨i, rfl, q H2 e2⟩
theorem ev_lenX {x : Str} (ha : Ev ta σ H (.str x)) (few : x.length ≤ 1000) : Ev (tCB (fun xs H Q => ∃ z, xs = [V.str z] ∧ z.length ≤ sizeLine ∧ Q (.int (z.length : Int)) H) (tCons ta tNil)) σ H (.int (x.length : Int)) := fun H1 e Q q => ha H1 e _ fun H2 e2 => ⟨x, rfl, Nat.le_of_lt (small1000 (by omega)), q H2 e2⟩
/-- an assignment that is not the last statement -/
theorem q_asgV {D : Ends} {tz : TS} {j : Nat} (h : te σ H fun v H' => tz D (σ.set j (some v)) H') : tSeq (tAsg te (gName j)) tz D σ H := h
theorem q_asgD {D : Ends} {tz : TS} {j : Nat} (h : VD b te σ H n d) (nb : H b ≠ none) (k : ∀ v H1, Ex H H1 → Has (dl b H1) n v d → tz D (σ.set j (some v)) H1) : tSeq (tAsg te (gName j)) tz D σ H := h H (Ex.refl _) nb _ k
theorem q_retV {D : Ends} (h : te σ H fun v H' => D.rt v H') : tRet te D σ H := h
/-! ### lambdas in lists -/
variable {T : List (Addr × Str)} {mk mk2 : Addr → Value → LF}
theorem tabs_dl (B : Bag H b l ns) (h : Tabs T H) : Tabs T (dl b H) := fun p hp => by
  obtain ⟨ps, h1, h2, h3⟩ := h p hp
  have nb : ∀ {c : Addr} {o : HO}, H c = some o → (∀ xs, o ≠ .lst xs) → c ≠ b := fun {c o} hc no z => by
    obtain ⟨_, _, _, i, j, s, h, _⟩ := B
    rw [z, h] at hc
    exact no _ (Option.some.inj hc).symm
  refine ⟨ps, dl_of (nb h1 fun _ z => nomatch z) h1, h2, fun pos cv hc => ?_⟩
  obtain ⟨c, e1, e2⟩ := h3 pos cv hc
  exact ⟨c, e1, dl_of (nb e2 fun _ z => by unfold CodeO at z; cases z) e2⟩
theorem at_dl {f : Addr} {F : LF} (B : Bag H b l ns) (h : LamAt H f F) : LamAt (dl b H) f F := by
  have nb : ∀ {c : Addr} {o : HO}, H c = some o → (∀ xs, o ≠ .lst xs) → c ≠ b := fun {c o} hc no z => by
    obtain ⟨_, _, _, i, j, s, h, _⟩ := B
    rw [z, h] at hc
    exact no _ (Option.some.inj hc).symm
  have dfo : ∀ {m : Nat} {v : Value}, DfO H v m → DfO (dl b H) v m := fun {m v} h => by
    match m, h with
    | 0, h => exact h
    | 1, ⟨T, e, h⟩ => exact ⟨T, e, dl_of (nb h fun _ z => by unfold ZeroO at z; cases z) h⟩
    | _ + 2, h => exact h.elim
  exact ⟨dl_of (nb h.1 fun _ z => by unfold LamO at z; cases z) h.1, dl_of (nb h.2.1 fun _ z => by unfold CodeO at z; cases z) h.2.1, dfo h.2.2⟩
/-- a new list of one lambda -/
theorem lams1 (B : Bag H b l ns) (hT : Tabs T (dl b H)) {Q : VK} (q : ∀ (p f c' : Addr) (dV : Value) (H' : Hp), ExtN (dl b H) (dl b H') → Bag H' b l ns → Tabs T (dl b H') → dl b H' p = some (.lst [.ref f]) → LamAt (dl b H') f (mk c' dV) → Q (.ref p) H') :
    tLst (tCons (tMkLam T mk) tNil) σ H Q :=
  ⟨hT.ext dl_ex, fun f c' dV H1 e1 n1 T1 nf a1 => ⟨(show 1 ≤ sizeLine by decide), fun p hp => by
    have B1 := bag_extN B e1
    have e2 := Ex.new (o := .lst [V.ref f]) hp
    have B2 := bag_ex B1 e2
    exact q p f c' dV _ ((dl_extN e1).trans (dl_extN (ExtN.of e2))) B2 (tabs_dl B2 (T1.ext e2)) (dl_new (bag_some B1) hp) ((at_dl B1 a1).ex (dl_up e2))⟩⟩
theorem lams2 (B : Bag H b l ns) (hT : Tabs T (dl b H)) {Q : VK} (q : ∀ (p f c' f2 c2 : Addr) (dV dV2 : Value) (H' : Hp), ExtN (dl b H) (dl b H') → Bag H' b l ns → Tabs T (dl b H') → dl b H' p = some (.lst [.ref f, .ref f2]) → LamAt (dl b H') f (mk c' dV) → LamAt (dl b H') f2 (mk2 c2 dV2) → Q (.ref p) H') :
    tLst (tCons (tMkLam T mk) (tCons (tMkLam T mk2) tNil)) σ H Q :=
  ⟨hT.ext dl_ex, fun f c' dV H1 e1 n1 T1 nf a1 => ⟨T1, fun f2 c2 dV2 H2 e2 n2 T2 nf2 a2 => ⟨(show 2 ≤ sizeLine by decide), fun p hp => by
    have B1 := bag_extN B e1
    have B2 := bag_extN B1 e2
    have e3 := Ex.new (o := .lst [V.ref f, V.ref f2]) hp
    have B3 := bag_ex B2 e3
    exact q p f c' f2 c2 dV dV2 _ (((dl_extN e1).trans (dl_extN e2)).trans (dl_extN (ExtN.of e3))) B3 (tabs_dl B3 (T2.ext e3)) (dl_new (bag_some B2) hp) ((at_dl B2 (a1.ext e2)).ex (dl_up e3)) ((at_dl B2 a2).ex (dl_up e3))⟩⟩⟩
/-- another list put behind -/
theorem lamsC1 {xs : List V} {j : Nat} (hj : σ[j]? = some (some (.ref a))) (ha : dl b H a = some (.lst xs)) (few : xs.length ≤ 50) (B : Bag H b l ns) (hT : Tabs T (dl b H)) {Q : VK}
    (q : ∀ (p f c' : Addr) (dV : Value) (H' : Hp), ExtN (dl b H) (dl b H') → Bag H' b l ns → Tabs T (dl b H') → dl b H' p = some (.lst (xs ++ [.ref f])) → LamAt (dl b H') f (mk c' dV) → Q (.ref p) H') : tOp rCat (tVar j) (tLst (tCons (tMkLam T mk) tNil)) σ H Q :=
  ⟨_, hj, lams1 B hT fun p f c' dV H1 e1 B1 T1 h1 a1 => by
    have ha1 := e1 _ _ ha fun _ z => nomatch z
    refine ⟨a, p, xs, [.ref f], rfl, rfl, dl_ex _ _ ha1, dl_ex _ _ h1, sz_of (by simp; omega), fun r hr => ?_⟩
    have e2 := Ex.new (o := .lst (xs ++ [V.ref f])) hr
    have B2 := bag_ex B1 e2
    exact q r f c' dV _ (e1.trans (dl_extN (ExtN.of e2))) B2 (T1.ext (dl_up e2)) (dl_new (bag_some B1) hr) (a1.ex (dl_up e2))⟩
theorem lamsC2 {xs : List V} {j : Nat} (hj : σ[j]? = some (some (.ref a))) (ha : dl b H a = some (.lst xs)) (few : xs.length ≤ 50) (B : Bag H b l ns) (hT : Tabs T (dl b H)) {Q : VK}
    (q : ∀ (p f c' f2 c2 : Addr) (dV dV2 : Value) (H' : Hp), ExtN (dl b H) (dl b H') → Bag H' b l ns → Tabs T (dl b H') → dl b H' p = some (.lst (xs ++ [.ref f, .ref f2])) → LamAt (dl b H') f (mk c' dV) → LamAt (dl b H') f2 (mk2 c2 dV2) → Q (.ref p) H') : tOp rCat (tVar j) (tLst (tCons (tMkLam T mk) (tCons (tMkLam T mk2) tNil))) σ H Q :=
  ⟨_, hj, lams2 B hT fun p f c' f2 c2 dV dV2 H1 e1 B1 T1 h1 a1 a2 => by
    have ha1 := e1 _ _ ha fun _ z => nomatch z
    refine ⟨a, p, xs, [.ref f, .ref f2], rfl, rfl, dl_ex _ _ ha1, dl_ex _ _ h1, sz_of (by simp; omega), fun r hr => ?_⟩
    have e2 := Ex.new (o := .lst (xs ++ [V.ref f, V.ref f2])) hr
    have B2 := bag_ex B1 e2
    exact q r f c' f2 c2 dV dV2 _ (e1.trans (dl_extN (ExtN.of e2))) B2 (T1.ext (dl_up e2)) (dl_new (bag_some B1) hr) (a1.ex (dl_up e2)) (a2.ex (dl_up e2))⟩
end
end K52

-- base: law_k02_machines_refused
/-! _law_word -/
namespace K52
open PySem L2 L2H LamX LamV Evl OxK
def spWo (P : Program) (w : World) (K : PySem.W.Frag) (mg : Str → Option Value) (C1 C2 C3 : Addr) (k : Nat) (base : Heap) : Sp := fun vs H Q _ => ∃ x : Ask, vs = [.ref x.f] ∧ AskR P w K mg base k x ∧
  TAsk K C1 C2 C3 x H fun v H' => rIxT K v (.int 0) H' Q
section
variable {P : Program} {w : World} {K : PySem.W.Frag} {mg : Str → Option Value} {base : Heap} {f fF C1 C2 C3 : Addr} {fd fdF : FuncData} {k : Nat}
end
end K52

/-! _law_try and _law_word of a lambda that is written there -/
namespace K52
open PySem L2 L2H LamX LamV Evl OxK
section
variable {X : Cx} {C1 C2 C3 b l : Addr} {ns : List Int} {kk n : Nat} {σ : L2.St} {H : Hp} {T : List (Addr × Str)} {params : Arguments} {body : Expr} {scope : Scope} {te : XK → TE} {d : Dt} {tg : Str} {Q : VK}
theorem try_lam (hT : Tabs T (dl b H)) (B : Bag H b l ns) (LT : LamTold X kk params body scope te)
    (A : ∀ (H1 : Hp) (f c' : Addr) (dV : Value), ExtN (dl b H) (dl b H1) → LamAt (dl b H1) f (mkLF X params body scope c' dV) → AskEv X.K C1 C2 C3 (dl b H1) n ⟨f, mkLF X params body scope c' dV, fun E H' Q' => te E σ H' Q'⟩ d)
    (q : ∀ v H2, ExtN (dl b H) (dl b H2) → Bag H2 b l ns → Tabs T (dl b H2) → Has (dl b H2) n v d → Q v H2) : tCallB X kk (spTry X.prog X.w X.K X.mg C1 C2 C3 (kk + 1)) [] E0 (tCons (tMkLam T (mkLF X params body scope)) tNil) σ H Q :=
  ⟨hT.ext dl_ex, fun f c' dV H1 e1 n1 T1 nf a1 => fun base hL => by
    have B1 := bag_extN B e1
    exact ⟨⟨f, mkLF X params body scope c' dV, fun E H' Q' => te E σ H' Q'⟩, rfl, hL LT, (A H1 f c' dV (dl_extN e1) (at_dl B1 a1)) H1 _ dl_ex fun v H2 e2 hv => q v H2 ((dl_extN e1).trans (dl_extN (ExtN.of e2))) (bag_ex B1 e2) (tabs_dl (bag_ex B1 e2) (T1.ext e2)) (hv.ex (nw_dl (bag_some B1)))⟩⟩
/-- the answer's first item -/
def AskTag (K : PySem.W.Frag) (C1 C2 C3 : Addr) (H0 : Hp) (x : Ask) (tg : Str) : Prop := ∀ H' (Q' : VK), Ex H0 H' → (∀ p ys H'', Ex H' H'' → H'' p = some (.tup (.str tg :: ys)) → Q' (.ref p) H'') → TAsk K C1 C2 C3 x H' Q'
theorem tag_of {K : PySem.W.Frag} {H0 : Hp} {x : Ask} {ds : List Dt} (A : AskEv K C1 C2 C3 H0 (n + 1) x (.t (.f (.str tg) :: ds))) : AskTag K C1 C2 C3 H0 x tg := fun H' Q' e q => A H' Q' e fun v H'' e2 hv => by
  obtain ⟨p, vs, rfl, hp, hh, _⟩ := has_t hv
  cases vs with
  | nil => exact hh.elim
  | cons v vs =>
    have z : v = .str tg := by
      match n, hh.1 with
      | 0, h => exact (Dt.f.inj h.2).symm
      | _ + 1, .inl h => exact (Dt.f.inj h.2).symm
      | _ + 1, .inr ⟨_, _, _, _, .inl ⟨_, h⟩, _⟩ => cases h
      | _ + 1, .inr ⟨_, _, _, _, .inr ⟨_, h⟩, _⟩ => cases h
    subst z
    exact q p vs H'' e2 (nw_ex _ _ hp)
theorem tag_val {K : PySem.W.Frag} {H0 : Hp} {x : Ask} (hat : LamAt H0 x.f x.F) (h : ∀ H' (Q : VK) (E : XK), Ex H0 H' → (∀ v H'', Ex H' H'' → Q v H'') → x.t E H' Q) : AskTag K C1 C2 C3 H0 x "value" := fun H' Q' e q =>
  ⟨hat.ex e, hat.ex e, h H' _ _ e fun v H'' e' => ⟨(show 2 ≤ sizeLine by decide), fun p hp => q p [v] _ (e'.trans (Ex.new hp)) upd_same⟩⟩
theorem word_lam (hT : Tabs T (dl b H)) (B : Bag H b l ns) (LT : LamTold X kk params body scope te)
    (A : ∀ (H1 : Hp) (f c' : Addr) (dV : Value), ExtN (dl b H) (dl b H1) → LamAt (dl b H1) f (mkLF X params body scope c' dV) → AskTag X.K C1 C2 C3 (dl b H1) ⟨f, mkLF X params body scope c' dV, fun E H' Q' => te E σ H' Q'⟩ tg)
    (q : ∀ H2, ExtN (dl b H) (dl b H2) → Bag H2 b l ns → Tabs T (dl b H2) → Q (.str tg) H2) : tCallB X kk (spWo X.prog X.w X.K X.mg C1 C2 C3 (kk + 1)) [] E0 (tCons (tMkLam T (mkLF X params body scope)) tNil) σ H Q :=
  ⟨hT.ext dl_ex, fun f c' dV H1 e1 n1 T1 nf a1 => fun base hL => by
    have B1 := bag_extN B e1
    exact ⟨⟨f, mkLF X params body scope c' dV, fun E H' Q' => te E σ H' Q'⟩, rfl, hL LT, (A H1 f c' dV (dl_extN e1) (at_dl B1 a1)) H1 _ dl_ex fun p ys H2 e2 hp => ⟨p, _, 0, .str tg, rfl, rfl, SqT.of hp, atI_nat (j := 0) rfl, q H2 ((dl_extN e1).trans (dl_extN (ExtN.of e2))) (bag_ex B1 e2) (tabs_dl (bag_ex B1 e2) (T1.ext e2))⟩⟩⟩
end
end K52

-- base: law_k09_whole_distances
/-! == of data of any depth, as Python sees it -/
namespace K52
open PySem L2 Evl OxK
mutual
def pyD : Dt → PyData
  | .f .non => .none
  | .f (.bl b) => .bool b
  | .f (.int i) => .int i
  | .f (.str x) => .str x
  | .f _ => .none
  | .l xs => .list (pyL xs)
  | .t xs => .tuple (pyL xs)
def pyL : List Dt → List PyData
  | [] => []
  | d :: ds => pyD d :: pyL ds
end
theorem dp_flat {K : PySem.W.Frag} {H : Hp} : ∀ {v : V}, Flat v → Dp K H v (pyD (.f v))
  | .non, _ => by rw [pyD]; exact .non
  | .bl b, _ => by rw [pyD]; exact .bl b
  | .int i, _ => by rw [pyD]; exact .int i
  | .str x, _ => by rw [pyD]; exact .str x
theorem dpall_at {K : PySem.W.Frag} {H : Hp} {n : Nat} (h : ∀ v d, Has H n v d → Dp K H v (pyD d)) : ∀ {vs : List V} {ds : List Dt}, vs.length = ds.length → (∀ (i : Nat) (x : V) (y : Dt), vs[i]? = some x → ds[i]? = some y → Has H n x y) → DpAll K H vs (pyL ds)
  | [], [], _, _ => by rw [pyL]; exact .nil
  | v :: vs, d :: ds, l, k => by
    rw [pyL]
    exact .cons (h v d (k 0 v d rfl rfl)) (dpall_at h (Nat.succ.inj l) fun i x y a b => k (i + 1) x y a b)
  | [], _ :: _, l, _ => nomatch l
  | _ :: _, [], l, _ => nomatch l
theorem dp_has {K : PySem.W.Frag} {H : Hp} : ∀ (n : Nat) (v : V) (d : Dt), Has H n v d → Dp K H v (pyD d)
  | 0, v, d, h => by
    obtain ⟨f, rfl⟩ := (show Flat v ∧ d = .f v from h)
    exact dp_flat f
  | n + 1, v, d, h => by
    rcases h with ⟨f, rfl⟩ | ⟨a, vs, ds, rfl, ⟨ha, rfl⟩ | ⟨ha, rfl⟩, hl, _, hi⟩
    · exact dp_flat f
    · rw [pyD]
      exact .lst (SqL.of ha) (dpall_at (dp_has n) hl hi)
    · rw [pyD]
      exact .tup (SqT.of ha) (dpall_at (dp_has n) hl hi)
section
variable {K : PySem.W.Frag} {ta tb : TE} {σ : L2.St} {H : Hp} {n m : Nat} {d d2 : Dt}
theorem ev_eqDt {b : Bool} (ha : EvH ta σ H n d) (hb : EvH tb σ H m d2) (s1 : SeqAt.shaped (pyD d) = true) (s2 : SeqAt.shaped (pyD d2) = true) (h : PyData.eqv (pyD d) (pyD d2) = b) : Ev (tOp (rEqD K) ta tb) σ H (.bl b) := fun H1 e1 Q q =>
  ha H1 e1 _ fun v H2 e2 hv => hb H2 (e1.trans e2) _ fun w H3 e3 hw => ⟨pyD d, pyD d2, dp_has n v d (hv.ex e3), dp_has m w d2 hw, s1, s2, by rw [h]; exact q H3 (e2.trans e3)⟩
theorem ev_neDt {b : Bool} (ha : EvH ta σ H n d) (hb : EvH tb σ H m d2) (s1 : SeqAt.shaped (pyD d) = true) (s2 : SeqAt.shaped (pyD d2) = true) (h : PyData.eqv (pyD d) (pyD d2) = !b) : Ev (tOp (rNeD K) ta tb) σ H (.bl b) := fun H1 e1 Q q =>
  ha H1 e1 _ fun v H2 e2 hv => hb H2 (e1.trans e2) _ fun w H3 e3 hw => ⟨pyD d, pyD d2, dp_has n v d (hv.ex e3), dp_has m w d2 hw, s1, s2, by rw [h, Bool.not_not]; exact q H3 (e2.trans e3)⟩
end
end K52

/-! is_alphabet of any value -/
namespace K52
open PySem L2 Evl OxK
def climbB : List Nat → Bool
  | a :: b :: r => decide (a < b) && climbB (b :: r)
  | _ => true
def climbAt (l : List Nat) (i : Nat) : Bool := decide (l.getD i 0 < l.getD (i + 1) 0)
theorem climb_all : ∀ l : List Nat, ((List.range (l.length - 1)).map (climbAt l)).all id = climbB l
  | [] => rfl
  | [_] => rfl
  | a :: b :: r => by
    have ih := climb_all (b :: r)
    have e : (a :: b :: r).length - 1 = ((b :: r).length - 1) + 1 := by simp
    rw [e, List.range_succ_eq_map, List.map_cons, List.map_map, List.all_cons]
    have z : (climbAt (a :: b :: r) ∘ Nat.succ) = climbAt (b :: r) := by
      funext i
      simp [climbAt]
    rw [z, ih]
    rfl
def lowB (l : List Nat) : Bool := l.all fun c => decide (97 ≤ c) && decide (c ≤ 122)
def alphaB (x : Str) : Bool := decide (1 ≤ (sg x).length) && decide ((sg x).length ≤ 3) && (climbB (sg x) && lowB (sg x))
def spClbB : Sp := fun vs H Q _ => ∃ x : Str, vs = [.str x] ∧ 1 ≤ x.length ∧ x.length ≤ 1000 ∧ ∀ H', Ex H H' → Q (.bl (climbB (sg x))) H'
def spAlpA (K : PySem.W.Frag) : Sp := fun vs H Q _ => ∃ (v : V) (T : String), vs = [v] ∧ Kn K H v T ∧ ((T ≠ "str" ∧ ∀ H', Ex H H' → Q (.bl false) H') ∨ ∃ x : Str, v = .str x ∧ T = "str" ∧ x.length ≤ 1000 ∧ ∀ H', Ex H H' → Q (.bl (alphaB x)) H')
section
variable {P : Program} {w : World} {K : PySem.W.Frag} {mg : Str → Option Value} {base : Heap} {f : Addr} {fd : FuncData}
theorem ev_allB {K : PySem.W.Frag} {σ : L2.St} {H : Hp} {te : TE} {bs : List Bool} (h : EvL te σ H (bs.map V.bl)) : Ev (tCB (rAll K) (tCons te tNil)) σ H (.bl (bs.all id)) := fun H1 e Q q =>
  h H1 e _ fun p H2 _ e2 h2 => ⟨p, bs, rfl, SqL.of h2, q H2 e2⟩
theorem lc_bls {J : It} {n : Nat} {g : TG} {te : TE} {vs : List Nat} {σ : L2.St} {H1 : Hp} {D : Addr} {Q : VK} (b : Nat → Bool) (hD : H1 D = none) (hn : n ≤ 1000) (hgo : ∀ i H, Ex H1 H → i < n → J.go i H) (hst : ∀ H, Ex H1 H → J.stop n H)
    (hs : ∀ i H x H', Ex H1 H → i < n → J.yld i H x H' → Ex H H' ∧ g x (wipe σ vs) H' fun σ2 H2 => wipe σ2 vs = wipe σ vs ∧ H2 = H' ∧ ∀ Q2 : VK, (∀ H3, Ex H2 H3 → Q2 (.bl (b i)) H3) → te σ2 H2 Q2)
    (hg : ∀ (x : V) (τ : L2.St) (H : Hp) (A B : L2.St → Hp → Prop), (∀ τ' H', A τ' H' → B τ' H') → g x τ H A → g x τ H B) (q : ∀ H, Ex H1 H → H D = some (.lst (((List.range n).map b).map V.bl)) → Q (.ref D) H) :
    ∃ W : Nat → Nat → Hp → Prop, (∃ m, W 0 m (upd H1 D (.lst []))) ∧ ∀ i m H, W i m H →
      (J.stop i H ∧ Q (.ref D) H) ∨ (J.go i H ∧ ∃ Nx : Hp → Prop, (∀ H', Nx H' → ∃ m', m' < m ∧ W (i + 1) m' H') ∧ ∀ x H', J.yld i H x H' → g x (wipe σ vs) H' fun σ2 H2 => wipe σ2 vs = wipe σ vs ∧ tYes σ2 H2 fun b H3 =>
        if b = true then te σ2 H3 fun y H4 => ∃ acc, H4 D = some (.lst acc) ∧ acc.length < sizeLine ∧ Nx (upd H4 D (.lst (acc ++ [y]))) else Nx H3) := by
  refine lc_any (J := J) (n := n) (fun i H => Ex H1 H ∧ H D = some (.lst (((List.range i).map b).map V.bl))) ⟨Ex.new hD, upd_same⟩ (fun i H hi p => hgo i H p.1 hi) (fun H p => hst H p.1) (fun i H x H' hi p y => ?_) (fun H p => q H p.1 p.2)
  obtain ⟨e, z⟩ := hs i H x H' p.1 hi y
  refine hg _ _ _ _ _ (fun τ H2 ⟨h1, h2, h3⟩ => ⟨h1, tt_yes (h3 _ fun H3 e3 => ?_)⟩) z
  subst h2
  refine ⟨_, e3 _ _ (e _ _ p.2), small1000 (by rw [List.length_map, List.length_map, List.length_range]; omega), Ex.mut ((p.1.trans e).trans e3) hD, ?_⟩
  rw [upd_same, List.range_succ, List.map_append, List.map_append]
  rfl
theorem lt_one (a b : Nat) : decide (([a] : List Nat) < [b]) = decide (a < b) := by
  rw [Bool.eq_iff_iff, decide_eq_true_iff, decide_eq_true_iff]
  constructor
  · intro h
    cases h with
    | rel h => exact h
    | cons h => cases h
  · exact fun h => List.Lex.rel h
theorem alpha_of {x : Str} (h : alphaB x = true) : AlphaOk x := by
  unfold alphaB at h
  rw [Bool.and_eq_true, Bool.and_eq_true, Bool.and_eq_true, decide_eq_true_iff, decide_eq_true_iff] at h
  obtain ⟨⟨h1, h2⟩, h3, h4⟩ := h
  refine ⟨h1, h2, ?_, fun c hc => ?_⟩
  · have key : ∀ (l : List Nat), climbB l = true → ∀ k a b, l[k]? = some a → l[k + 1]? = some b → a < b := by
      intro l
      induction l with
      | nil => intro _ k a b h; cases h
      | cons x l ih =>
        intro h k a b g1 g2
        cases l with
        | nil => simp at g2
        | cons y r =>
          unfold climbB at h
          rw [Bool.and_eq_true, decide_eq_true_iff] at h
          cases k with
          | zero => cases g1; cases g2; exact h.1
          | succ k => exact ih h.2 k a b (by simpa using g1) (by simpa using g2)
    exact key _ h3
  · have z := List.all_eq_true.mp h4 c hc
    rw [Bool.and_eq_true, decide_eq_true_iff, decide_eq_true_iff] at z
    exact z
end
end K52

-- base: law_k02_machines_refused
/-! is_index and is_goals of any value -/
namespace K52
open PySem L2 Evl OxK
/-- what is_index tells of any value -/
def IxOf (K : PySem.W.Frag) (H : Hp) (v : V) (n : Int) (b : Bool) : Prop := (Flat v ∧ b = isIx v n) ∨ ∃ T, Kn K H v T ∧ T ≠ "int" ∧ b = false
theorem IxOf.ex {K : PySem.W.Frag} {H H' : Hp} {v : V} {n : Int} {b : Bool} (h : IxOf K H v n b) (e : Ex H H') : IxOf K H' v n b := h.imp id fun ⟨T, k, t, z⟩ => ⟨T, k.ex e, t, z⟩
def spIdxA (K : PySem.W.Frag) : Sp := fun vs H Q _ => ∃ (v : V) (n : Int) (b : Bool), vs = [v, .int n] ∧ IxOf K H v n b ∧ ∀ H', Ex H H' → Q (.bl b) H'
/-- a list or a tuple, or no list at all -/
def GlOf (K : PySem.W.Frag) (H : Hp) (v : V) (L n : Int) (b : Bool) : Prop := (∃ T, Kn K H v T ∧ (isB T "list" || isB T "tuple") = false ∧ b = false) ∨
  ∃ (a : Addr) (xs : List V) (bs : List Bool), v = .ref a ∧ (H a = some (.lst xs) ∨ H a = some (.tup xs)) ∧ xs.length ≤ 1000 ∧ bs.length = xs.length ∧ (∀ (i : Nat) (x : V) (c : Bool), xs[i]? = some x → bs[i]? = some c → IxOf K H x n c) ∧ b = (decide ((xs.length : Int) = L) && bs.all id)
theorem GlOf.ex {K : PySem.W.Frag} {H H' : Hp} {v : V} {L n : Int} {b : Bool} (h : GlOf K H v L n b) (e : Ex H H') : GlOf K H' v L n b := by
  rcases h with ⟨T, k, t, z⟩ | ⟨a, xs, bs, r, hk, few, hl, hb, z⟩
  · exact .inl ⟨T, k.ex e, t, z⟩
  · exact .inr ⟨a, xs, bs, r, hk.imp (e _ _) (e _ _), few, hl, fun i x c h1 h2 => (hb i x c h1 h2).ex e, z⟩
def spGlsA (K : PySem.W.Frag) : Sp := fun vs H Q _ => ∃ (v : V) (L n : Int) (b : Bool), vs = [v, .int L, .int n] ∧ GlOf K H v L n b ∧ ∀ H', Ex H H' → Q (.bl b) H'
section
variable {P : Program} {w : World} {K : PySem.W.Frag} {mg : Str → Option Value} {base : Heap} {f : Addr} {fd : FuncData}
end
end K52

-- base: law_k66_errors_by_themselves
/-! InvalidAlphabet, raised -/
namespace K52
open PySem L2 Evl OxK
section
variable {P : Program} {w : World} {K : PySem.W.Frag} {mg : Str → Option Value} {base : Heap} {f fC C : Addr} {fd fdC : FuncData}
end
end K52

-- base: law_k66_errors_by_themselves
/-! InvalidStates, raised -/
namespace K52
open PySem L2 Evl OxK
section
variable {P : Program} {w : World} {K : PySem.W.Frag} {mg : Str → Option Value} {base : Heap} {f fC C : Addr} {fd fdC : FuncData}
end
end K52

-- base: law_k02_machines_refused
/-! require_shape that raises -/
namespace K52
open PySem L2 Evl OxK
/-- no alphabet -/
def NoAlp (K : PySem.W.Frag) (H : Hp) (v : V) : Prop := ∃ T, Kn K H v T ∧ (T ≠ "str" ∨ ∃ x : Str, v = .str x ∧ T = "str" ∧ x.length ≤ 1000 ∧ alphaB x = false)
theorem NoAlp.ex {K : PySem.W.Frag} {H H' : Hp} {v : V} (h : NoAlp K H v) (e : Ex H H') : NoAlp K H' v := by
  obtain ⟨T, k, q⟩ := h
  exact ⟨T, k.ex e, q⟩
def YesAlp (v : V) : Prop := ∃ x : Str, v = .str x ∧ x.length ≤ 1000 ∧ alphaB x = true
def NoSize (K : PySem.W.Frag) (H : Hp) (y : V) : Prop := ∃ T, Kn K H y T ∧ (T ≠ "int" ∨ ∃ z : Int, y = .int z ∧ T = "int" ∧ ¬ (1 ≤ z ∧ z ≤ 24))
theorem NoSize.ex {K : PySem.W.Frag} {H H' : Hp} {v : V} (h : NoSize K H v) (e : Ex H H') : NoSize K H' v := by
  obtain ⟨T, k, q⟩ := h
  exact ⟨T, k.ex e, q⟩
def spRsX (K : PySem.W.Frag) (n : Nat) (CA CS : Addr) : Sp := fun vs H Q E => ∃ v y, vs = [v, y] ∧ ((NoAlp K H v ∧ Rz0 CA "InvalidAlphabet" H E) ∨ (YesAlp v ∧ NoSize K H y ∧ ∃ d, Has H n y d ∧ Rz n CS "InvalidStates" "given" d H E))
section
variable {P : Program} {w : World} {K : PySem.W.Frag} {mg : Str → Option Value} {base : Heap} {f : Addr} {fd : FuncData}
end
end K52

-- base: law_k66_errors_by_themselves
/-! InvalidMove, raised -/
namespace K52
open PySem L2 Evl OxK
section
variable {P : Program} {w : World} {K : PySem.W.Frag} {mg : Str → Option Value} {base : Heap} {f fC C : Addr} {fd fdC : FuncData}
end
end K52

-- base: law_k02_machines_refused
/-! Machine.__init__ that raises -/
namespace K52
open PySem L2 Evl OxK
theorem hasF {H : Hp} {v : V} (f : Flat v) : ∀ n, Has H n v (.f v)
  | 0 => ⟨f, rfl⟩
  | _ + 1 => .inl ⟨f, rfl⟩
def spRsE (K : PySem.W.Frag) (n : Nat) (CA CS : Addr) : Sp := fun vs H Q E => spRsh vs H Q E ∨ spRsX K n CA CS vs H Q E
def spMiX (K : PySem.W.Frag) (n : Nat) (CA CS CM : Addr) : Sp := fun vs H Q E => ∃ (s : Addr) (v : V) (m : Addr) (ms : List V), vs = [.ref s, v, .ref m] ∧ (H m = some (.lst ms) ∨ H m = some (.tup ms)) ∧
  ((NoAlp K H v ∧ Rz0 CA "InvalidAlphabet" H E) ∨ (YesAlp v ∧ ¬ (1 ≤ ms.length ∧ ms.length ≤ 24) ∧ Rz n CS "InvalidStates" "given" (.f (.int (ms.length : Int))) H E) ∨
    ∃ (x : Str) (at_ : Nat), v = .str x ∧ AlphaOk x ∧ 1 ≤ ms.length ∧ ms.length ≤ 24 ∧ at_ < ms.length ∧ (∀ j y, j < at_ → ms[j]? = some y → GlOf K H y (x.length : Int) (ms.length : Int) true) ∧ (∀ y, ms[at_]? = some y → GlOf K H y (x.length : Int) (ms.length : Int) false) ∧
      Rz n CM "InvalidMove" "index" (.f (.int (at_ : Int))) H E)
section
variable {P : Program} {w : World} {K : PySem.W.Frag} {mg : Str → Option Value} {base : Heap} {f : Addr} {fd : FuncData}
end
end K52

-- base: law_k02_machines_refused
/-! what Machine makes of wrong data -/
namespace K52
open PySem L2 L2H LamX LamV Evl OxK
mutual
def okD : Dt → Bool
  | .f (.str x) => PyData.strOk x
  | .f _ => true
  | .l xs => okL xs
  | .t xs => okL xs
def okL : List Dt → Bool
  | [] => true
  | d :: ds => okD d && okL ds
end
theorem okL_all {p : Dt → Prop} : ∀ {ds : List Dt}, (∀ d ∈ ds, okD d = true) → okL ds = true
  | [], _ => by simp [okL]
  | d :: ds, h => by
    rw [okL, h d List.mem_cons_self, okL_all (p := p) fun e he => h e (List.mem_cons_of_mem _ he)]
    rfl
theorem lay_has {H : Hp} : ∀ (n : Nat) (v : V) (d : Dt), Has H n v d → okD d = true → PyData.canLay0 (pyD d) = true ∧ PyData.depth (pyD d) ≤ n := by
  have flat : ∀ {v : V}, Flat v → okD (.f v) = true → PyData.canLay0 (pyD (.f v)) = true ∧ PyData.depth (pyD (.f v)) = 0 := fun {v} fv ok => by
    match v, fv, ok with
    | .non, _, _ => rw [pyD]; simp [PyData.canLay0, PyData.depth]
    | .bl _, _, _ => rw [pyD]; simp [PyData.canLay0, PyData.depth]
    | .int _, _, _ => rw [pyD]; simp [PyData.canLay0, PyData.depth]
    | .str x, _, ok => rw [pyD]; rw [okD] at ok; simp [PyData.canLay0, PyData.depth, ok]
  have all : ∀ (n : Nat), (∀ (v : V) (d : Dt), Has H n v d → okD d = true → PyData.canLay0 (pyD d) = true ∧ PyData.depth (pyD d) ≤ n) → ∀ {vs : List V} {ds : List Dt}, vs.length = ds.length → (∀ (i : Nat) (x : V) (y : Dt), vs[i]? = some x → ds[i]? = some y → Has H n x y) → okL ds = true →
      PyData.canLayAll0 (pyL ds) = true ∧ PyData.depthAll (pyL ds) ≤ n := by
    intro n ih vs
    induction vs with
    | nil =>
      intro ds hl _ _
      cases ds with
      | nil => rw [pyL]; simp [PyData.canLayAll0, PyData.depthAll]
      | cons => simp at hl
    | cons v vs ihv =>
      intro ds hl hi ok
      cases ds with
      | nil => simp at hl
      | cons d ds =>
        rw [okL, Bool.and_eq_true] at ok
        obtain ⟨h1, h2⟩ := ih v d (hi 0 v d rfl rfl) ok.1
        obtain ⟨h3, h4⟩ := ihv (by simpa using hl) (fun i x y a b => hi (i + 1) x y (by simpa using a) (by simpa using b)) ok.2
        rw [pyL]
        simp only [PyData.canLayAll0, PyData.depthAll, h1, h3, Bool.and_true]
        exact ⟨trivial, by omega⟩
  intro n
  induction n with
  | zero =>
    intro v d h ok
    obtain ⟨f, rfl⟩ := (show Flat v ∧ d = .f v from h)
    obtain ⟨h1, h2⟩ := flat f ok
    exact ⟨h1, by omega⟩
  | succ n ih =>
    intro v d h ok
    rcases h with ⟨f, rfl⟩ | ⟨a, vs, ds, rfl, ⟨ha, rfl⟩ | ⟨ha, rfl⟩, hl, _, hi⟩
    · obtain ⟨h1, h2⟩ := flat f ok
      exact ⟨h1, by omega⟩
    · rw [okD] at ok
      obtain ⟨h1, h2⟩ := all n ih hl hi ok
      rw [pyD]
      simp only [PyData.canLay0, PyData.depth, h1]
      exact ⟨trivial, by omega⟩
    · rw [okD] at ok
      obtain ⟨h1, h2⟩ := all n ih hl hi ok
      rw [pyD]
      simp only [PyData.canLay0, PyData.depth, h1]
      exact ⟨trivial, by omega⟩
theorem shaped_has {H : Hp} {n : Nat} {v : V} {d : Dt} (h : Has H n v d) (ok : okD d = true) (few : n ≤ 64) : SeqAt.shaped (pyD d) = true := by
  obtain ⟨h1, h2⟩ := lay_has n v d h ok
  unfold SeqAt.shaped
  rw [h1, Bool.true_and, decide_eq_true_iff]
  omega
section
variable {K : PySem.W.Frag} {te ta tb : TE} {tr : TA} {σ : L2.St} {H H' H1 H2 : Hp} {b l a : Addr} {ns : List Int} {v : V} {d d2 : Dt} {ds es : List Dt} {n i : Nat}
/-- == of data, as Python sees it -/
theorem vd_eq {m : Nat} {c : Bool} (ha : VD b ta σ H n d) (hb : VD b tb σ H m d2) (s1 : okD d = true) (s2 : okD d2 = true) (fn : n ≤ 64) (fm : m ≤ 64) (h : PyData.eqv (pyD d) (pyD d2) = c) (nb : H b ≠ none) {Q : VK} (q : ∀ H2, Ex H H2 → Q (.bl c) H2) : tOp (rEqD K) ta tb σ H Q :=
  ha H (Ex.refl _) nb _ fun v H2 e2 hv => hb H2 (dl_up e2) (up_ne nb e2) _ fun w H3 e3 hw => ⟨pyD d, pyD d2, dp_has n v d ((hv.ex (dl_up e3)).ex dl_ex), dp_has m w d2 (hw.ex dl_ex), shaped_has hv s1 fn, shaped_has hw s2 fm, by rw [h]; exact q H3 (e2.trans e3)⟩
/-! ### alphabets and goals as data -/
def dNoAlp : Dt → Prop
  | .f (.str x) => x.length ≤ 1000 ∧ alphaB x = false
  | _ => True
theorem kn_has (h : Has H n v d) (hd : ∀ w, d ≠ .f w) : ∃ T, Kn K H v T ∧ (T = "list" ∨ T = "tuple") := by
  match n, h with
  | 0, h =>
    obtain ⟨f, rfl⟩ := (show Flat v ∧ d = .f v from h)
    exact absurd rfl (hd v)
  | n + 1, h =>
    rcases h with ⟨f, rfl⟩ | ⟨a, vs, ds, rfl, ⟨ha, rfl⟩ | ⟨ha, rfl⟩, _, _, _⟩
    · exact absurd rfl (hd v)
    · exact ⟨_, kn_lst ha, .inl rfl⟩
    · exact ⟨_, kn_tup ha, .inr rfl⟩
theorem has_fl {w : V} : ∀ {n : Nat}, Has H n v (.f w) → Flat v ∧ v = w
  | 0, h => by
    obtain ⟨f, e⟩ := (show Flat v ∧ Dt.f w = .f v from h)
    exact ⟨f, (Dt.f.inj e).symm⟩
  | n + 1, h => by
    rcases h with ⟨f, e⟩ | ⟨a, vs, ds, rfl, ⟨ha, e⟩ | ⟨ha, e⟩, _, _, _⟩
    · exact ⟨f, (Dt.f.inj e).symm⟩
    · cases e
    · cases e
theorem noAlp_has (h : Has H n v d) (hd : dNoAlp d) : NoAlp K H v := by
  cases d with
  | f w =>
    obtain ⟨fv, rfl⟩ := has_fl h
    refine ⟨_, kn_flat fv, ?_⟩
    cases v with
    | str x => exact .inr ⟨x, rfl, rfl, hd.1, hd.2⟩
    | _ => first | exact fv.elim | exact .inl (by simp [tyF])
  | l xs =>
    obtain ⟨T, k, z⟩ := kn_has (K := K) h fun w e => nomatch e
    exact ⟨T, k, .inl (by rcases z with rfl | rfl <;> decide)⟩
  | t xs =>
    obtain ⟨T, k, z⟩ := kn_has (K := K) h fun w e => nomatch e
    exact ⟨T, k, .inl (by rcases z with rfl | rfl <;> decide)⟩
def dIx : Dt → Int → Bool
  | .f v, n => isIx v n
  | _, _ => false
def dGl : Dt → Int → Int → Bool
  | .l ds, L, n => decide ((ds.length : Int) = L) && ds.all fun d => dIx d n
  | .t ds, L, n => decide ((ds.length : Int) = L) && ds.all fun d => dIx d n
  | _, _, _ => false
theorem ixOf_has {z : Int} (h : Has H n v d) : IxOf K H v z (dIx d z) := by
  cases d with
  | f w =>
    obtain ⟨fv, rfl⟩ := has_fl h
    exact .inl ⟨fv, rfl⟩
  | l xs =>
    obtain ⟨T, k, q⟩ := kn_has (K := K) h fun w e => nomatch e
    exact .inr ⟨T, k, by rcases q with rfl | rfl <;> decide, rfl⟩
  | t xs =>
    obtain ⟨T, k, q⟩ := kn_has (K := K) h fun w e => nomatch e
    exact .inr ⟨T, k, by rcases q with rfl | rfl <;> decide, rfl⟩
theorem glOf_has {L z : Int} (h : Has H n v d) : GlOf K H v L z (dGl d L z) := by
  have main : ∀ (p : Addr) (vs : List V) (ds : List Dt) (m : Nat), HasL H m vs ds → ds.length ≤ 1000 → (H p = some (.lst vs) ∨ H p = some (.tup vs)) → GlOf K H (.ref p) L z (decide ((ds.length : Int) = L) && ds.all fun d => dIx d z) := fun p vs ds m hv few hp => by
    have ln := (hasl_at hv).1
    refine .inr ⟨p, vs, ds.map fun d => dIx d z, rfl, hp, by omega, by simp [ln], fun i x c h1 h2 => ?_, by rw [ln, List.all_map]; rfl⟩
    rw [List.getElem?_map] at h2
    cases e : ds[i]? with
    | none => rw [e] at h2; cases h2
    | some d =>
      rw [e] at h2
      cases h2
      exact ixOf_has ((hasl_at hv).2 i x d h1 e)
  cases d with
  | f w =>
    obtain ⟨fv, rfl⟩ := has_fl h
    refine .inl ⟨_, kn_flat fv, ?_, rfl⟩
    cases v <;> first | exact fv.elim | rfl
  | l xs =>
    cases n with
    | zero => exact nomatch (show Flat v ∧ Dt.l xs = .f v from h).2
    | succ n =>
      obtain ⟨p, vs, rfl, hp, hv, few⟩ := has_l h
      exact main p vs xs n hv few (.inl hp)
  | t xs =>
    cases n with
    | zero => exact nomatch (show Flat v ∧ Dt.t xs = .f v from h).2
    | succ n =>
      obtain ⟨p, vs, rfl, hp, hv, few⟩ := has_t h
      exact main p vs xs n hv few (.inr hp)
/-! ### Machine(a, m) that raises -/
variable {C CA CS CM : Addr} {E : XK} {Q : VK} {x : Str} {k : Nat}
theorem made2 {p dx : Addr} (h1 : H p = none) (h2 : H dx = none) (h3 : dx ≠ p) : Ex H (upd (upd H dx (.own p)) p (.ins C dx [])) := (Ex.new h2).trans (Ex.new (by rw [upd_ne h3.symm]; exact h1))
theorem mk_noalp (ha : EvH ta σ H n d) (hb : EvH tb σ H (i + 1) (.l ds)) (hd : dNoAlp d) (r : Rz0 CA "InvalidAlphabet" H E) (sp : Sp) (hsp : ∀ vs H Q E, spMiX K k CA CS CM vs H Q E → sp vs H Q E) : tMake C sp [] E (tCons ta (tCons tb tNil)) σ H Q :=
  ha H (Ex.refl _) _ fun v H2 e2 hv => hb H2 e2 _ fun w H3 e3 hw => fun p dx h1 h2 h3 => by
    obtain ⟨m, ms, rfl, hm, _, _⟩ := has_l hw
    have e4 := made2 (C := C) h1 h2 h3
    exact hsp _ _ _ _ ⟨p, v, m, ms, rfl, .inl (e4 _ _ hm), .inl ⟨noAlp_has (hv.ex (e3.trans e4)) hd, r.ex ((e2.trans e3).trans e4)⟩⟩
theorem mk_nosize (ha : Ev ta σ H (.str x)) (ax : alphaB x = true) (xl : x.length ≤ 1000) (hb : EvH tb σ H (i + 1) (.l ds)) (hd : ¬ (1 ≤ ds.length ∧ ds.length ≤ 24)) (r : Rz k CS "InvalidStates" "given" (.f (.int (ds.length : Int))) H E) (sp : Sp) (hsp : ∀ vs H Q E, spMiX K k CA CS CM vs H Q E → sp vs H Q E) : tMake C sp [] E (tCons ta (tCons tb tNil)) σ H Q :=
  ha H (Ex.refl _) _ fun H2 e2 => hb H2 e2 _ fun w H3 e3 hw => fun p dx h1 h2 h3 => by
    obtain ⟨m, ms, rfl, hm, hv, _⟩ := has_l hw
    have e4 := made2 (C := C) h1 h2 h3
    have ln := (hasl_at hv).1
    exact hsp _ _ _ _ ⟨p, _, m, ms, rfl, .inl (e4 _ _ hm), .inr (.inl ⟨⟨x, rfl, xl, ax⟩, by rw [ln]; exact hd, by rw [ln]; exact r.ex ((e2.trans e3).trans e4)⟩)⟩
theorem mk_move {at_ : Nat} (ha : Ev ta σ H (.str x)) (ax : AlphaOk x) (hb : EvH tb σ H (i + 1) (.l ds)) (d1 : 1 ≤ ds.length) (d2 : ds.length ≤ 24) (hat : at_ < ds.length) (hg : ∀ j e, j < at_ → ds[j]? = some e → dGl e (x.length : Int) (ds.length : Int) = true) (hbad : ∀ e, ds[at_]? = some e → dGl e (x.length : Int) (ds.length : Int) = false)
    (r : Rz k CM "InvalidMove" "index" (.f (.int (at_ : Int))) H E) (sp : Sp) (hsp : ∀ vs H Q E, spMiX K k CA CS CM vs H Q E → sp vs H Q E) : tMake C sp [] E (tCons ta (tCons tb tNil)) σ H Q :=
  ha H (Ex.refl _) _ fun H2 e2 => hb H2 e2 _ fun w H3 e3 hw => fun p dx h1 h2 h3 => by
    obtain ⟨m, ms, rfl, hm, hv, _⟩ := has_l hw
    have e4 := made2 (C := C) h1 h2 h3
    have ln := (hasl_at hv).1
    refine hsp _ _ _ _ ⟨p, _, m, ms, rfl, .inl (e4 _ _ hm), .inr (.inr ⟨x, at_, rfl, ax, by omega, by omega, by omega, fun j y hj hy => ?_, fun y hy => ?_, r.ex ((e2.trans e3).trans e4)⟩)⟩
    · have hj2 : ds[j]? = some (ds[j]'(by omega)) := List.getElem?_eq_getElem (by omega)
      have z := glOf_has (K := K) (L := (x.length : Int)) (z := (ms.length : Int)) (((hasl_at hv).2 j y _ hy hj2).ex e4)
      rw [ln, hg j _ hj hj2] at z
      rw [ln]
      exact z
    · have hj2 : ds[at_]? = some (ds[at_]'(by omega)) := List.getElem?_eq_getElem (by omega)
      have z := glOf_has (K := K) (L := (x.length : Int)) (z := (ms.length : Int)) (((hasl_at hv).2 at_ y _ hy hj2).ex e4)
      rw [ln, hbad _ hj2] at z
      rw [ln]
      exact z
end
end K52

-- base: law_k52_report_texts
/-! InvalidText, raised -/
namespace K52
open PySem L2 Evl OxK
section
variable {P : Program} {w : World} {K : PySem.W.Frag} {mg : Str → Option Value} {base : Heap} {f fC C : Addr} {fd fdC : FuncData}
abbrev FIInvalidText (K : PySem.W.Frag) (f : Addr) (fd : FuncData) : Prop := FunD K "__init__" "InvalidText.__init__" (defArgs iInvalidText) (defBody iInvalidText) (defScope iInvalidText) [] [] f fd
theorem sxInvalidText : FnScope ["self"] ["self"] (defScope iInvalidText) := ⟨rfl, rfl, rfl, by decide +kernel, rfl, by decide +kernel, by decide +kernel⟩
theorem okxInvalidText {fI : Addr} (F : FIInvalidText K f fd) (T : RaC K mg "InvalidText" C fI) : FnOk P w K mg base CX0 1 f fd ["self"] (spX0 C "InvalidText") := by
  refine F.ok (k := 0) sxInvalidText (fun vs H Q E h => ?_) (fun cdv A outer s H vs Q E hr h => ⟨_, PSs.nox (pss_one (ps_xst (pv 0) pe_str)), pure_initN0 "InvalidText" T.exc (T.tag.no _ (by decide)) h⟩)
  obtain ⟨a, H0, rfl, _⟩ := h
  rfl
theorem bxInvalidText (F : FIInvalidText K f fd) : Binds K fd ["self"] [] := F.bindsN fun _ _ _ _ _ _ us hl => match us, hl with | [_], _ => rfl
end
end K52

/-! f(k = v, ..), no argument by place; a dict comprehension over any walk -/
namespace L2
open PySem PySem.Spec PyProof.Rows Evl
section
variable {X : Cx} {CX : CXT} {k : Nat} {f : Addr} {fd : FuncData} {ps ks : List Str} {sp : Sp} {E : XK} {x : Str} {p pos : Pos} {kws : List Keyword} {tk : TA} {g : List Value → List Value → List Value} {gV : List V → List V → List V}
theorem pe_callN0 (F : FnOk X.prog X.w X.K X.mg X.base CX k f fd ps sp) (hr : Room k X.A) (hg : Gl X x) (hm : X.mg x = some (.ref f)) (hk : PySem.W.keepIn X.K (.ref f) = true) (hb : KBn X.K fd ps 0 ks g gV) (hx : Passes CX X E) (hkw : PK X kws tk)
    (hall : (backToKw pos (keywordEach kws X.env)).all (·.1.isSome) = true := by rfl) (hks : (backToKw pos (keywordEach kws X.env)).filterMap (·.1) = ks := by rfl) (hdb : (x == ("__debug__" : Str)) = false := by decide)
    (hpl : ((backTo pos (starEach [] X.env)).any (·.1) || (backToKw pos (keywordEach kws X.env)).any (·.1.isNone)) = false := by rfl) :
    PE X (.Call (.Name x p) [] kws pos) (tCallN 0 ks.length sp gV E tNil tk) := by
  refine ⟨fun pins s σ H Q I h => ?_⟩
  refine wpAny_Call_Name_kw (ld_glob I hg hm ?_ hdb)
  refine PySem.W.callWith_KW0 (h₀ := X.base) I.ok.mod.kin hk hall ?_ hpl
  refine thn (hkw.run pos pins s σ H _ I h) fun ws s2 ⟨zs, H2, I2, rz, l1, l2, q2⟩ => ⟨I2.kIn, ?_⟩
  rw [hks]
  exact run_fnN (us := []) (vs := []) F hr hb hx I2 .nil rz rfl l2 q2
end
theorem dc_any {J : It} {n : Nat} {g : TG} {tt : TT} {tk tv : TE} {vs : List Nat} {σ : L2.St} {H1 : Hp} {D : Addr} {Qd : Hp → Prop} (Pv : Nat → Hp → Prop) (h0 : Pv 0 (upd H1 D (.dK []))) (hgo : ∀ i H, i < n → Pv i H → J.go i H) (hst : ∀ H, Pv n H → J.stop n H)
    (hs : ∀ i H x H', i < n → Pv i H → J.yld i H x H' → g x (wipe σ vs) H' fun σ2 H2 => wipe σ2 vs = wipe σ vs ∧ tt σ2 H2 fun b H3 =>
      if b = true then tk σ2 H3 fun y H4 => tv σ2 H4 fun z H5 => ∃ kvs k, y = kV k ∧ H5 D = some (.dK kvs) ∧ kvs.length < sizeLine ∧ Pv (i + 1) (upd H5 D (.dK (putK kvs k z))) else Pv (i + 1) H3) (hd : ∀ H, Pv n H → Qd H) :
    ∃ W : Nat → Nat → Hp → Prop, (∃ m, W 0 m (upd H1 D (.dK []))) ∧ ∀ i m H, W i m H →
      (J.stop i H ∧ Qd H) ∨ (J.go i H ∧ ∃ Nx : Hp → Prop, (∀ H', Nx H' → ∃ m', m' < m ∧ W (i + 1) m' H') ∧ ∀ x H', J.yld i H x H' → g x (wipe σ vs) H' fun σ2 H2 => wipe σ2 vs = wipe σ vs ∧ tt σ2 H2 fun b H3 =>
        if b = true then tk σ2 H3 fun y H4 => tv σ2 H4 fun z H5 => ∃ kvs k, y = kV k ∧ H5 D = some (.dK kvs) ∧ kvs.length < sizeLine ∧ Nx (upd H5 D (.dK (putK kvs k z))) else Nx H3) := by
  refine ⟨fun i m H => i + m = n ∧ Pv i H, ⟨n, Nat.zero_add n, h0⟩, fun i m H ⟨e, p⟩ => ?_⟩
  cases m with
  | zero =>
    cases (show i = n from e)
    exact .inl ⟨hst H p, hd H p⟩
  | succ k =>
    have lt : i < n := by omega
    exact .inr ⟨hgo i H lt p, Pv (i + 1), fun H' p' => ⟨k, Nat.lt_succ_self k, by omega, p'⟩, fun x H' y => hs i H x H' lt p y⟩
end L2

/-! for over any walk, whose body may change the heap -/
namespace L2
open PySem PySem.Spec PyProof.Rows Evl
theorem for_any {J : It} {n : Nat} {g : TG} {tb : TS} {D : Ends} {σ : L2.St} {H : Hp} (Pv : Nat → L2.St → Hp → Prop) (h0 : Pv 0 σ H) (hgo : ∀ i σ H, i < n → Pv i σ H → J.go i H) (hst : ∀ σ H, Pv n σ H → J.stop n H)
    (hs : ∀ i x σ H H', i < n → Pv i σ H → J.yld i H x H' → g x σ H' fun σ2 H2 => tb { D with nx := Pv (i + 1), ct := Pv (i + 1), bk := D.nx } σ2 H2) (hd : ∀ σ H, Pv n σ H → D.nx σ H) :
    ∃ W : Nat → Nat → L2.St → Hp → Prop, (∃ m, W 0 m σ H) ∧ ∀ i m σ H, W i m σ H →
      (J.stop i H ∧ D.nx σ H) ∨ (J.go i H ∧ ∃ N : L2.St → Hp → Prop, (∀ σ' H', N σ' H' → ∃ m', m' < m ∧ W (i + 1) m' σ' H') ∧ ∀ x H', J.yld i H x H' → g x σ H' fun σ2 H2 => tb { D with nx := N, ct := N, bk := D.nx } σ2 H2) := by
  refine ⟨fun i m σ H => m = n - i ∧ i ≤ n ∧ Pv i σ H, ⟨n, by simp, Nat.zero_le _, h0⟩, ?_⟩
  rintro i m σ H ⟨rfl, hi, p⟩
  by_cases hlt : i < n
  · exact .inr ⟨hgo i σ H hlt p, Pv (i + 1), fun σ' H' p' => ⟨n - (i + 1), by omega, rfl, hlt, p'⟩, fun x H' y => hs i x σ H H' hlt p y⟩
  · have q : i = n := by omega
    subst q
    exact .inl ⟨hst σ H p, hd σ H p⟩
theorem tt_yesZ {σ : L2.St} {H : Hp} {A B : Hp → Prop} (h : A H) : tYes σ H fun b H3 => if b = true then A H3 else B H3 := by
  show (if true = true then A H else B H)
  rw [if_pos rfl]
  exact h
/-- a comprehension over a walk that changes nothing, whose items are values -/
theorem lc_vals {wi : TI} {te : TE} {σ : L2.St} {H : Hp} {j : Nat} {vs : List Nat} {n : Nat} {yl : Nat → V → Hp → Hp → Prop} (v : Nat → V) (hwi : ∀ H1, Ex H H1 → ∀ R : It → Hp → Prop, (∀ J H2, Ex H1 H2 → Wk J H2 n yl → R J H2) → wi σ H1 R) (hn : n ≤ 100) (hy : ∀ i y H1 H2, yl i y H1 H2 → H2 = H1)
    (hw : ∀ x, wipe ((wipe σ vs).set j (some x)) vs = wipe σ vs) (it : ∀ i y H1, Ex H H1 → i < n → yl i y H1 H1 → Ev te ((wipe σ vs).set j (some y)) H1 (v i)) :
    EvL (tLc wi (gName j) tYes te vs) σ H ((List.range n).map v) := by
  intro H0 e0 Q q
  refine hwi H0 e0 _ fun J H1 e1 wk D hD => ?_
  refine ⟨fun i m H' => i + m = n ∧ Ex H1 H' ∧ H' D = some (.lst ((List.range i).map v)), ⟨n, Nat.zero_add n, Ex.new hD, upd_same⟩, ?_⟩
  rintro i m H4 ⟨im, e4, hDl⟩
  cases m with
  | zero =>
    cases (show i = n from im)
    exact .inl ⟨wk.stop H4 e4, q D H4 (fresh_back e1 hD) (e1.trans e4) hDl⟩
  | succ k =>
    have hi : i < n := by omega
    refine .inr ⟨wk.go i H4 e4 hi, fun H' => Ex H1 H' ∧ H' D = some (.lst ((List.range (i + 1)).map v)), fun H' p' => ⟨k, Nat.lt_succ_self k, by omega, p'⟩, fun y H5 yl' => ?_⟩
    have yy := wk.yld i H4 y H5 e4 hi yl'
    have r := hy _ _ _ _ yy
    subst r
    refine ⟨hw y, tt_yesZ ?_⟩
    refine it i y _ ((e0.trans e1).trans e4) hi yy _ (Ex.refl _) _ fun H6 e6 => ?_
    refine ⟨_, e6 _ _ hDl, sz_lt (by simp; omega), Ex.mut (e4.trans e6) hD, ?_⟩
    rw [upd_same, List.range_succ]
    simp
end L2

/-! one of two readings; the place of an int in a tuple -/
namespace L2
open PySem PySem.Spec PyProof.Rows Evl
def tOrE (t1 t2 : TE) : TE := fun σ H Q => t1 σ H Q ∨ t2 σ H Q
theorem pe_or2 {X : Cx} {e : Expr} {t1 t2 : TE} (h1 : PE X e t1) (h2 : PE X e t2) : PE X e (tOrE t1 t2) := ⟨fun pins s σ H Q I h => h.elim (h1.run pins s σ H Q I) (h2.run pins s σ H Q I)⟩
def ixI (g : Int) : List Int → Nat
  | [] => 0
  | a :: r => if a = g then 0 else ixI g r + 1
theorem idx_ix (g : Int) : ∀ l : List Int, l.idxOf g = ixI g l
  | [] => rfl
  | a :: r => by
    have ih := idx_ix g r
    rw [List.idxOf_cons, ih]
    show _ = if a = g then 0 else ixI g r + 1
    by_cases e : a = g
    · rw [if_pos e, e]; simp
    · rw [if_neg e]
      have : (a == g) = false := beq_eq_false_iff_ne.mpr e
      rw [this]
      rfl
theorem ints_valsI : ∀ {ns : List Int} {vs : List Value}, Vals (ns.map V.int) vs → IntsAre vs ns
  | [], _, h => by cases h; exact IntsAre.nil
  | n :: ns, _, h => by
    cases h with
    | cons r t =>
      obtain ⟨u, rfl⟩ := r
      exact IntsAre.cons _ _ (ints_valsI t)
def rIndexTI (K : PySem.W.Frag) : V → List V → Hp → VK → Prop := fun x xs H Q => ∃ (p : Addr) (ns : List Int) (k : Int), x = .ref p ∧ xs = [.int k] ∧ SqT K H p (ns.map V.int) ∧ k ∈ ns ∧ Q (.int (ixI k ns : Int)) H
theorem mt_tup_indexI {X : Cx} {K : PySem.W.Frag} (h : X.K = K := by rfl) : MtR X "tuple.index" (rIndexTI K) := by
  subst h
  intro pins s σ H x xs v us Q I rx rs h
  obtain ⟨p, ns, k, rfl, rfl, hq, hk, q⟩ := h
  cases rx
  obtain ⟨u, rfl, t, rfl⟩ := vals1 rs
  obtain ⟨its, r, pl, hz⟩ := I.tuple hq
  refine PySem.SeqAt.tuple_index_ints (vs := its) ?_ (ints_valsI r) hk ⟨.int _, H, I.tok _, ⟨_, rfl⟩, ?_⟩
  · exact pl
  · rw [idx_ix]
    exact q
/-- a tuple whose object is known to have no dict -/
def TupZ (H : Hp) (p : Addr) (xs : List V) : Prop := ∃ o : Obj, H p = some (.frz o (.tup xs)) ∧ o.cls = .type "tuple" ∧ o.dict = none
theorem TupZ.sq {K : PySem.W.Frag} {H : Hp} {p : Addr} {xs : List V} (h : TupZ H p xs) : SqT K H p xs := by
  obtain ⟨o, h, _⟩ := h
  exact .inl (.inr ⟨o, h⟩)
theorem TupZ.ex {H H' : Hp} {p : Addr} {xs : List V} (h : TupZ H p xs) (e : Ex H H') : TupZ H' p xs := by
  obtain ⟨o, h, r⟩ := h
  exact ⟨o, e _ _ h, r⟩
/-- tuple(list): its object known -/
def rTupZ (K : PySem.W.Frag) : List V → Hp → VK → Prop := fun xs H Q => ∃ (p : Addr) (ys : List V), xs = [.ref p] ∧ SqL K H p ys ∧ ∀ (l : Addr) (H' : Hp), H l = none → Ex H H' → TupZ H' l ys → Q (.ref l) H'
theorem call_tuple_ofZ {X : Cx} {K : PySem.W.Frag} (h : X.K = K := by rfl) : CallR X (.type "tuple") (rTupZ K) := by
  subst h
  intro pins s σ H xs us Q I r h
  obtain ⟨p, ys, rfl, hq, q⟩ := h
  obtain ⟨u, rfl, rx⟩ := vals1 r
  cases rx
  obtain ⟨its, r', pl, hz⟩ := I.list hq
  have hlen := r'.length
  refine call_tuple_list pl.isList (fun h' kp => ?_) (by simp only [List.size_toArray] <;> omega)
  have I1 : Inv X pins σ H { s with heap := h' } := I.kept (t' := s.toks) kp
  have I2 : Inv X pins σ (upd H h'.objs.size (.frz { cls := .type "tuple", data := .seq its.toArray } (.tup ys))) { s with heap := h'.push { cls := .type "tuple", data := .seq its.toArray } } :=
    I1.laid (t' := s.toks) (fun b o e => Heap.get?_push_of_some _ e) (Nat.le_refl _) (show ObjOk X.prog X.w _ _ _ (.frz _ (.tup ys)) from ⟨Heap.get?_push_size h' rfl, hz, its, r', IsTup.new _ _⟩)
  have hf := I1.hok.fresh (Nat.le_refl h'.objs.size)
  exact ⟨.ref h'.objs.size, _, I2, rfl, q _ _ hf (Ex.new hf) ⟨_, upd_same, rfl, rfl⟩⟩
def tBMT (r : V → List V → Hp → VK → Prop) (to : TE) (t : TA) : TE := fun σ H Q => to σ H fun x H1 => (∃ (p : Addr) (ys : List V), x = .ref p ∧ TupZ H1 p ys) ∧ t σ H1 fun xs H2 => r x xs H2 Q
theorem pe_bmT {X : Cx} {o e : Expr} {es : List Expr} {to : TE} {t : TA} {name : Str} {apos cpos : Pos} {id : String} {r : V → List V → Hp → VK → Prop} (slot : Slot "tuple" name id) (hty : typeOf (.builtin id) = pure (.type "method_descriptor")) (hm : MtR X id r) (ho : PE X o to) (ha : PA X (e :: es) t)
    (hbase : attributeBase o name X.env (eval o X.env) = eval o X.env := by rfl)
    (hfew : ((backTo cpos (starEach (e :: es) X.env)).all (fun x => !x.1) && (backToKw cpos (keywordEach [] X.env)).all (fun x => x.1.isSome)
      && decide ((e :: es).length + ([] : List Keyword).length + (if ([] : List Keyword).isEmpty then 0 else 1) < 30)) = true := by rfl)
    (hline : (apos.endLine == cpos.line) = true := by rfl) (hs : starEach (e :: es) X.env = (false, eval e X.env) :: starEach es X.env := by rfl) (hplain : (backTo cpos (starEach es X.env)).any (·.1) = false := by rfl) :
    PE X (.Call (.Attribute o name apos) (e :: es) [] cpos) (tBMT r to t) := by
  refine ⟨fun pins s σ H Q I h => ?_⟩
  refine wpAny_Call_method_late hbase hfew hline rfl (thn (ho.run pins s σ H _ I h) fun v s1 ⟨x, H1, I1, r1, ty, q1⟩ => ?_)
  obtain ⟨p, ys, rfl, ob, hp, hc, hd⟩ := ty
  have r1' := r1
  cases r1
  obtain ⟨g, _⟩ := I1.hok p _ hp
  refine ⟨"tuple", id, PySem.F.plainAttrs_tuple, slot, hty, ⟨ob, g, hc⟩, fun a e => ?_, ?_⟩
  · cases e
    exact ⟨ob, g, hd⟩
  have hA := ha.run cpos pins s1 σ H1 _ I1 q1
  rw [hs] at hA ⊢
  refine Calls.callWith_builtin (by show (false || (backTo cpos (starEach es X.env)).any (·.1)) = false; rw [hplain] <;> rfl) (Calls.evalArgs_plain ?_)
  exact thn hA fun us s2 ⟨vs, H2, I2, r2, q2⟩ => hm pins s2 σ H2 (.ref p) vs _ us Q I2 r1' r2 q2
end L2

-- base: law_k16_partitions_recognized
/-! blocks numbered in the sequence of their first states -/
namespace K52
open PySem L2 Evl OxK
def intV (zs : List Int) : List V := zs.map V.int
theorem ixI_spec {g : Int} : ∀ {l : List Int}, g ∈ l → l[ixI g l]? = some g ∧ ∀ m z, m < ixI g l → l[m]? = some z → z ≠ g
  | [], h => nomatch h
  | a :: r, h => by
    by_cases e : a = g
    · have z : ixI g (a :: r) = 0 := if_pos e
      rw [z]
      exact ⟨by rw [e]; rfl, fun m y hm => absurd hm (by omega)⟩
    · have z : ixI g (a :: r) = ixI g r + 1 := if_neg e
      have hr : g ∈ r := (List.mem_cons.mp h).resolve_left fun q => e q.symm
      obtain ⟨h1, h2⟩ := ixI_spec hr
      rw [z]
      refine ⟨by simpa using h1, fun m y hm hy => ?_⟩
      cases m with
      | zero =>
        cases hy
        exact e
      | succ m => exact h2 m y (by omega) (by simpa using hy)
theorem ixI_lt {g : Int} {l : List Int} (h : g ∈ l) : ixI g l < l.length := (List.getElem?_eq_some_iff.mp (ixI_spec h).1).1
theorem ixI_app {g : Int} : ∀ {l : List Int} (m : List Int), g ∈ l → ixI g (l ++ m) = ixI g l
  | [], _, h => nomatch h
  | a :: r, m, h => by
    show (if a = g then 0 else ixI g (r ++ m) + 1) = (if a = g then 0 else ixI g r + 1)
    by_cases e : a = g
    · rw [if_pos e, if_pos e]
    · rw [if_neg e, if_neg e, ixI_app m ((List.mem_cons.mp h).resolve_left fun q => e q.symm)]
theorem ixI_new {g : Int} : ∀ {l : List Int}, g ∉ l → ixI g (l ++ [g]) = l.length
  | [], _ => if_pos rfl
  | a :: r, h => by
    have e : ¬ a = g := fun q => h (by rw [q]; exact List.mem_cons_self)
    show (if a = g then 0 else ixI g (r ++ [g]) + 1) = r.length + 1
    rw [if_neg e, ixI_new fun q => h (List.mem_cons_of_mem _ q)]
theorem ixI_map {p : Int → Int} {g : Int} : ∀ {l : List Int}, (∀ a ∈ l, p a = p g → a = g) → ixI (p g) (l.map p) = ixI g l
  | [], _ => rfl
  | a :: r, h => by
    have ih := ixI_map (p := p) (g := g) (l := r) fun b hb => h b (List.mem_cons_of_mem _ hb)
    show (if p a = p g then 0 else ixI (p g) (r.map p) + 1) = (if a = g then 0 else ixI g r + 1)
    by_cases e : a = g
    · rw [if_pos e, if_pos (by rw [e])]
    · rw [if_neg e, if_neg fun q => e (h a List.mem_cons_self q), ih]
/-- the different ones, in their sequence -/
def dd : List Int → List Int → List Int
  | acc, [] => acc
  | acc, a :: r => dd (if a ∈ acc then acc else acc ++ [a]) r
def numI (ls : List Int) : List Int := ls.map fun a => (ixI a (dd [] ls) : Int)
theorem dd_mem {a : Int} : ∀ (ls acc : List Int), a ∈ dd acc ls ↔ a ∈ acc ∨ a ∈ ls
  | [], acc => by simp [dd]
  | b :: r, acc => by
    show a ∈ dd (if b ∈ acc then acc else acc ++ [b]) r ↔ _
    rw [dd_mem r]
    by_cases h : b ∈ acc
    · rw [if_pos h, List.mem_cons]
      constructor
      · rintro (q | q)
        · exact .inl q
        · exact .inr (.inr q)
      · rintro (q | q | q)
        · exact .inl q
        · rw [q]; exact .inl h
        · exact .inr q
    · rw [if_neg h]
      simp only [List.mem_append, List.mem_cons, List.not_mem_nil, or_false]
      exact or_assoc
theorem dd_pre : ∀ (ls acc : List Int), ∃ m, dd acc ls = acc ++ m
  | [], acc => ⟨[], (List.append_nil acc).symm⟩
  | b :: r, acc => by
    show ∃ m, dd (if b ∈ acc then acc else acc ++ [b]) r = acc ++ m
    obtain ⟨m, hm⟩ := dd_pre r (if b ∈ acc then acc else acc ++ [b])
    rw [hm]
    by_cases h : b ∈ acc
    · rw [if_pos h]; exact ⟨m, rfl⟩
    · rw [if_neg h]; exact ⟨[b] ++ m, by rw [List.append_assoc]⟩
theorem dd_snoc (a : Int) : ∀ (ls acc : List Int), dd acc (ls ++ [a]) = if a ∈ dd acc ls then dd acc ls else dd acc ls ++ [a]
  | [], acc => rfl
  | b :: r, acc => dd_snoc a r _
theorem dd_len : ∀ (ls acc : List Int), (dd acc ls).length ≤ acc.length + ls.length
  | [], acc => Nat.le_refl _
  | b :: r, acc => by
    show (dd (if b ∈ acc then acc else acc ++ [b]) r).length ≤ _
    have := dd_len r (if b ∈ acc then acc else acc ++ [b])
    by_cases h : b ∈ acc
    · rw [if_pos h] at this ⊢; simp; omega
    · rw [if_neg h] at this ⊢; simp at this ⊢; omega
theorem dd_map {p : Int → Int} : ∀ (ls acc : List Int), (∀ a b, (a ∈ acc ∨ a ∈ ls) → (b ∈ acc ∨ b ∈ ls) → p a = p b → a = b) → dd (acc.map p) (ls.map p) = (dd acc ls).map p
  | [], acc, _ => rfl
  | b :: r, acc, inj => by
    show dd (if p b ∈ acc.map p then acc.map p else acc.map p ++ [p b]) (r.map p) = (dd (if b ∈ acc then acc else acc ++ [b]) r).map p
    by_cases h : b ∈ acc
    · rw [if_pos h, if_pos (List.mem_map.mpr ⟨b, h, rfl⟩)]
      exact dd_map r acc fun x y hx hy => inj x y (hx.imp id (List.mem_cons_of_mem _)) (hy.imp id (List.mem_cons_of_mem _))
    · have h2 : p b ∉ acc.map p := fun q => by
        obtain ⟨c, hc, e⟩ := List.mem_map.mp q
        exact h (by rw [← inj c b (.inl hc) (.inr List.mem_cons_self) e]; exact hc)
      rw [if_neg h, if_neg h2]
      have z : acc.map p ++ [p b] = (acc ++ [b]).map p := by simp
      rw [z]
      refine dd_map r (acc ++ [b]) fun x y hx hy => inj x y ?_ ?_
      · rcases hx with q | q
        · rcases List.mem_append.mp q with q | q
          · exact .inl q
          · simp at q; rw [q]; exact .inr List.mem_cons_self
        · exact .inr (List.mem_cons_of_mem _ q)
      · rcases hy with q | q
        · rcases List.mem_append.mp q with q | q
          · exact .inl q
          · simp at q; rw [q]; exact .inr List.mem_cons_self
        · exact .inr (List.mem_cons_of_mem _ q)
theorem numI_len (ls : List Int) : (numI ls).length = ls.length := by simp [numI]
theorem ixI_inj {l : List Int} {a b : Int} (ha : a ∈ l) (hb : b ∈ l) (e : ixI a l = ixI b l) : a = b := by
  have h1 := (ixI_spec ha).1
  rw [e, (ixI_spec hb).1] at h1
  exact (Option.some.inj h1).symm
theorem numI_num (ls : List Int) : numI (numI ls) = numI ls := by
  have inj : ∀ a b : Int, (a ∈ ([] : List Int) ∨ a ∈ ls) → (b ∈ ([] : List Int) ∨ b ∈ ls) → ((ixI a (dd [] ls) : Int) = (ixI b (dd [] ls) : Int)) → a = b := fun a b ha hb e =>
    ixI_inj ((dd_mem ls []).mpr ha) ((dd_mem ls []).mpr hb) (by omega)
  have e1 : dd [] (ls.map fun a => (ixI a (dd [] ls) : Int)) = (dd [] ls).map fun a => (ixI a (dd [] ls) : Int) := dd_map ls [] inj
  unfold numI
  rw [e1, List.map_map]
  refine List.map_congr_left fun a ha => ?_
  show ((ixI (ixI a (dd [] ls) : Int) ((dd [] ls).map fun a => (ixI a (dd [] ls) : Int)) : Nat) : Int) = _
  rw [ixI_map (p := fun a => (ixI a (dd [] ls) : Int)) fun b hb e => inj b a ((dd_mem ls []).mp hb) (.inr ha) e]
theorem numI_mem {ls : List Int} {z : Int} (h : z ∈ numI ls) : 0 ≤ z ∧ z < ls.length := by
  obtain ⟨a, ha, rfl⟩ := List.mem_map.mp h
  have h1 : ixI a (dd [] ls) < (dd [] ls).length := ixI_lt ((dd_mem ls []).mpr (.inr ha))
  have h2 := dd_len ls []
  simp at h2
  omega
theorem numI_head (a : Int) (r : List Int) : numI (a :: r) = 0 :: r.map fun b => (ixI b (dd [] (a :: r)) : Int) := by
  show ((ixI a (dd [] (a :: r)) : Nat) : Int) :: _ = _
  obtain ⟨m, hm⟩ := dd_pre r [a]
  have z : dd [] (a :: r) = [a] ++ m := hm
  have z2 : ixI a (dd [] (a :: r)) = 0 := by rw [z]; exact if_pos rfl
  rw [z2]
  rfl
theorem dd_nodup : ∀ (ls acc : List Int), (acc ++ ls).Nodup → dd acc ls = acc ++ ls
  | [], acc, _ => (List.append_nil acc).symm
  | b :: r, acc, h => by
    have nb : b ∉ acc := fun q => by
      have := (List.nodup_append.mp h).2.2 b q b List.mem_cons_self
      exact this rfl
    show dd (if b ∈ acc then acc else acc ++ [b]) r = _
    rw [if_neg nb, dd_nodup r (acc ++ [b]) (by rw [List.append_assoc]; exact h), List.append_assoc]
    rfl
def ranI (n : Nat) : List Int := (List.range n).map fun i : Nat => (i : Int)
theorem ranI_nodup (n : Nat) : (ranI n).Nodup := by
  unfold ranI
  rw [List.nodup_iff_pairwise_ne, List.pairwise_map]
  exact (List.nodup_iff_pairwise_ne.mp List.nodup_range).imp fun h q => h (by omega)
theorem numI_ran (n : Nat) : numI (ranI n) = ranI n := by
  have h := dd_nodup (ranI n) [] (by simpa using ranI_nodup n)
  unfold numI
  rw [h]
  have : ∀ a ∈ ranI n, ((ixI a ([] ++ ranI n) : Nat) : Int) = a := fun a ha => by
    rw [List.nil_append]
    obtain ⟨i, hi, rfl⟩ := List.mem_map.mp ha
    have hl := List.mem_range.mp hi
    obtain ⟨h1, h2⟩ := ixI_spec (g := (i : Int)) (l := ranI n) ha
    have h3 := (List.getElem?_eq_some_iff.mp h1).1
    unfold ranI at h1
    rw [List.getElem?_map, List.getElem?_range (by simpa [ranI] using h3)] at h1
    have := Option.some.inj h1
    exact this
  rw [List.map_congr_left this, List.map_id']
/-! ### places in a dict -/
def plcI : Nat → List Int → List (Key × V)
  | _, [] => []
  | k, a :: r => (.inl a, .int (k : Int)) :: plcI (k + 1) r
theorem plcI_snoc {a : Int} : ∀ (l : List Int) (k : Nat), plcI k (l ++ [a]) = plcI k l ++ [(.inl a, .int ((k + l.length : Nat) : Int))]
  | [], k => rfl
  | b :: r, k => by
    show _ :: plcI (k + 1) (r ++ [a]) = _ :: (plcI (k + 1) r ++ _)
    rw [plcI_snoc r (k + 1)]
    have e : k + 1 + r.length = k + (b :: r).length := by simp; omega
    rw [e]
theorem plcI_len : ∀ (l : List Int) (k : Nat), (plcI k l).length = l.length
  | [], _ => rfl
  | _ :: r, k => congrArg Nat.succ (plcI_len r (k + 1))
theorem plcI_val {g : Int} : ∀ (l : List Int) (k : Nat), g ∈ l → valV (plcI k l) (.inl g) = some (.int ((k + ixI g l : Nat) : Int))
  | a :: r, k, h => by
    show valV ((.inl a, .int (k : Int)) :: plcI (k + 1) r) _ = _
    by_cases e : a = g
    · subst e
      rw [valV_pos rfl]
      have z : ixI a (a :: r) = 0 := if_pos rfl
      rw [z]
      rfl
    · have ne : ¬ ((.inl a : Key) = .inl g) := fun z => e (Sum.inl.inj z)
      rw [valV_neg ne, plcI_val r (k + 1) ((List.mem_cons.mp h).resolve_left fun q => e q.symm)]
      have z : ixI g (a :: r) = ixI g r + 1 := if_neg e
      rw [z]
      have e2 : k + 1 + ixI g r = k + (ixI g r + 1) := by omega
      rw [e2]
theorem plcI_no {g : Int} : ∀ (l : List Int) (k : Nat), g ∉ l → valV (plcI k l) (.inl g) = none
  | [], _, _ => rfl
  | a :: r, k, h => by
    show valV ((.inl a, .int (k : Int)) :: plcI (k + 1) r) _ = _
    have ne : ¬ ((.inl a : Key) = .inl g) := fun z => h (by rw [Sum.inl.inj z]; exact List.mem_cons_self)
    rw [valV_neg ne]
    exact plcI_no r (k + 1) fun q => h (List.mem_cons_of_mem _ q)
theorem plcI_put {g : Int} {l : List Int} (h : g ∉ l) : putK (plcI 0 l) (.inl g) (.int (l.length : Int)) = plcI 0 (l ++ [g]) := by
  have z : ((plcI 0 l).any fun kv => decide (kv.1 = (.inl g : Key))) = false := by rw [valV_any, plcI_no l 0 h]; rfl
  unfold putK
  rw [z, plcI_snoc, Nat.zero_add]
  rfl
/-! ### lists of numbers compared -/
def intsP (zs : List Int) : List PyData := zs.map PyData.int
theorem eqv_ints : ∀ a b : List Int, PyData.eqvAll (intsP a) (intsP b) = decide (a = b)
  | [], [] => by simp [intsP, PyData.eqvAll]
  | [], _ :: _ => by simp [intsP, PyData.eqvAll]
  | _ :: _, [] => by simp [intsP, PyData.eqvAll]
  | x :: a, y :: b => by
    have ih := eqv_ints a b
    unfold intsP at ih ⊢
    simp only [List.map_cons, PyData.eqvAll, PyData.eqv, ih]
    rw [Bool.eq_iff_iff]
    simp
theorem lay_ints : ∀ a : List Int, PyData.canLayAll0 (intsP a) = true ∧ PyData.depthAll (intsP a) = 0
  | [] => by simp [intsP, PyData.canLayAll0, PyData.depthAll]
  | x :: a => by
    obtain ⟨h1, h2⟩ := lay_ints a
    unfold intsP at h1 h2 ⊢
    simp only [List.map_cons, PyData.canLayAll0, PyData.canLay0, PyData.depthAll, PyData.depth, h1, h2]
    simp
theorem shaped_ints (a : List Int) : SeqAt.shaped (.list (intsP a)) = true := by
  obtain ⟨h1, h2⟩ := lay_ints a
  unfold SeqAt.shaped
  simp only [PyData.canLay0, PyData.depth, h1, h2]
  simp
theorem dp_ints {K : PySem.W.Frag} {H : Hp} : ∀ zs : List Int, DpAll K H (intV zs) (intsP zs)
  | [] => .nil
  | z :: zs => .cons (.int z) (dp_ints zs)
section
variable {K : PySem.W.Frag} {te ta tb : TE} {σ : L2.St} {H : Hp} {p q : Addr} {zs ys : List Int}
theorem ev_eqI (ha : Ev ta σ H (.ref p)) (hb : Ev tb σ H (.ref q)) (hp : H p = some (.lst (intV zs))) (hq : H q = some (.lst (intV ys))) : Ev (tOp (rEqD K) ta tb) σ H (.bl (decide (zs = ys))) := fun H1 e1 Q k =>
  ha H1 e1 _ fun H2 e2 => hb H2 (e1.trans e2) _ fun H3 e3 => by
    have e := (e1.trans e2).trans e3
    refine ⟨.list (intsP zs), .list (intsP ys), .lst (SqL.of (e _ _ hp)) (dp_ints zs), .lst (SqL.of (e _ _ hq)) (dp_ints ys), shaped_ints _, shaped_ints _, ?_⟩
    have z : PyData.eqv (.list (intsP zs)) (.list (intsP ys)) = decide (zs = ys) := by
      show PyData.eqv (.list _) (.list _) = _
      rw [PyData.eqv]
      exact eqv_ints zs ys
    rw [z]
    exact k H3 (e2.trans e3)
theorem rv_eqII (hp : H p = some (.lst (intV zs))) (hq : H q = some (.lst (intV ys))) : ∀ H1, Ex H H1 → ∀ Q : VK, Q (.bl (decide (zs = ys))) H1 → rEqD K (.ref p) (.ref q) H1 Q := fun H1 e Q k => by
  refine ⟨.list (intsP zs), .list (intsP ys), .lst (SqL.of (e _ _ hp)) (dp_ints zs), .lst (SqL.of (e _ _ hq)) (dp_ints ys), shaped_ints _, shaped_ints _, ?_⟩
  have z : PyData.eqv (.list (intsP zs)) (.list (intsP ys)) = decide (zs = ys) := by
    show PyData.eqv (.list _) (.list _) = _
    rw [PyData.eqv]
    exact eqv_ints zs ys
  rw [z]
  exact k
end
end K52

-- base: law_k16_partitions_recognized
/-! numbered; the first states of blocks -/
namespace K52
open PySem L2 Evl OxK
theorem pe_bmK {X : Cx} {K : PySem.W.Frag} {o e : Expr} {es : List Expr} {to : TE} {t : TA} {name : Str} {apos cpos : Pos} {T id : String} {r : V → List V → Hp → VK → Prop} (pa : PlainAttrs T) (slot : Slot T name id) (hty : typeOf (.builtin id) = pure (.type "method_descriptor")) (hm : MtR X id r) (ho : PE X o to) (ha : PA X (e :: es) t)
    (hbase : attributeBase o name X.env (eval o X.env) = eval o X.env := by rfl)
    (hfew : ((backTo cpos (starEach (e :: es) X.env)).all (fun x => !x.1) && (backToKw cpos (keywordEach [] X.env)).all (fun x => x.1.isSome)
      && decide ((e :: es).length + ([] : List Keyword).length + (if ([] : List Keyword).isEmpty then 0 else 1) < 30)) = true := by rfl)
    (hline : (apos.endLine == cpos.line) = true := by rfl) (hs : starEach (e :: es) X.env = (false, eval e X.env) :: starEach es X.env := by rfl) (hplain : (backTo cpos (starEach es X.env)).any (·.1) = false := by rfl) (hK : X.K = K := by rfl) :
    PE X (.Call (.Attribute o name apos) (e :: es) [] cpos) (tBM K T r to t) := by
  subst hK
  exact pe_bm pa slot hty hm ho ha hbase hfew hline hs hplain
theorem mt_indexK {X : Cx} {K : PySem.W.Frag} (h : X.K = K := by rfl) : MtR X "list.index" (rIndex K) := by
  subst h
  exact mt_index
def Seq (K : PySem.W.Frag) (H : Hp) (a : Addr) (xs : List V) : Prop := H a = some (.lst xs) ∨ TupZ H a xs
theorem Seq.ex {K : PySem.W.Frag} {H H' : Hp} {a : Addr} {xs : List V} (h : Seq K H a xs) (e : Ex H H') : Seq K H' a xs := h.imp (e _ _) (fun h => h.ex e)
theorem Seq.or {K : PySem.W.Frag} {H : Hp} {a : Addr} {xs : List V} (h : Seq K H a xs) : SqL K H a xs ∨ SqT K H a xs := h.imp SqL.of TupZ.sq
def spNb (K : PySem.W.Frag) : Sp := fun vs H Q _ => ∃ (a : Addr) (zs : List Int), vs = [.ref a] ∧ Seq K H a (intV zs) ∧ zs.length ≤ 100 ∧ ∀ p H', H p = none → Ex H H' → H' p = some (.lst (intV (numI zs))) → Q (.ref p) H'
def spFst (K : PySem.W.Frag) : Sp := fun vs H Q _ => ∃ (a : Addr) (zs : List Int), vs = [.ref a] ∧ Seq K H a (intV zs) ∧ zs.length ≤ 100 ∧ ∀ p H', H p = none → Ex H H' → H' p = some (.lst (intV (zs.map fun z => (ixI z zs : Int)))) → Q (.ref p) H'
section
variable {K : PySem.W.Frag} {te ta tb tl tr : TE} {σ : L2.St} {H : Hp} {a : Addr} {zs : List Int} {xs : List V} {g z : Int} {j : Nat} {vs : List Nat}
/-- over a list or a tuple of numbers, item by item -/
theorem el_seqI (f : Nat → V) (ht : Ev tl σ H (.ref a)) (hs : Seq K H a (intV zs)) (few : zs.length ≤ 100) (hw : ∀ x, wipe ((wipe σ vs).set j (some x)) vs = wipe σ vs)
    (it : ∀ i z H1, Ex H H1 → zs[i]? = some z → Ev te ((wipe σ vs).set j (some (.int z))) H1 (f i)) : EvL (tLc (fun σ H R => iList K tl σ H R ∨ iTup K tl σ H R) (gName j) tYes te vs) σ H ((List.range zs.length).map f) := by
  have len : (intV zs).length = zs.length := by simp [intV]
  have item : ∀ (i : Nat) (y : V) (H1 : Hp), Ex H H1 → i < zs.length → yPl (intV zs) i y H1 H1 → Ev te ((wipe σ vs).set j (some y)) H1 (f i) := by
    rintro i y H1 e1 hi ⟨_, hy⟩
    obtain ⟨z, hz⟩ : ∃ z, zs[i]? = some z := ⟨_, List.getElem?_eq_getElem hi⟩
    have ey : y = .int z := by
      unfold intV at hy
      rw [List.getElem?_map, hz] at hy
      exact (Option.some.inj hy).symm
    rw [ey]
    exact it i z H1 e1 hz
  refine lc_vals (yl := yPl (intV zs)) f (fun H1 e1 R r => ?_) few (fun _ _ _ _ h => h.1) hw item
  rcases hs with h | h
  · exact .inl (ht H1 e1 _ fun H2 e2 => ⟨a, rfl, ⟨_, SqL.of ((e1.trans e2) _ _ h)⟩, r _ H2 e2 (by have := wk_l (K := K) (SqL.of ((e1.trans e2) _ _ h)); rw [len] at this; exact this)⟩)
  · exact .inr (ht H1 e1 _ fun H2 e2 => ⟨a, rfl, ⟨_, (h.ex (e1.trans e2)).sq⟩, r _ H2 e2 (by have := wk_t (K := K) (h.ex (e1.trans e2)).sq; rw [len] at this; exact this)⟩)
theorem el_seqV (f : Nat → V) (ht : Ev tl σ H (.ref a)) (hs : Seq K H a xs) (few : xs.length ≤ 100) (hw : ∀ x, wipe ((wipe σ vs).set j (some x)) vs = wipe σ vs)
    (it : ∀ i y H1, Ex H H1 → xs[i]? = some y → Ev te ((wipe σ vs).set j (some y)) H1 (f i)) : EvL (tLc (fun σ H R => iList K tl σ H R ∨ iTup K tl σ H R) (gName j) tYes te vs) σ H ((List.range xs.length).map f) := by
  refine lc_vals (yl := yPl xs) f (fun H1 e1 R r => ?_) few (fun _ _ _ _ h => h.1) hw (fun i y H1 e1 hi h => it i y H1 e1 h.2)
  rcases hs with h | h
  · exact .inl (ht H1 e1 _ fun H2 e2 => ⟨a, rfl, ⟨_, SqL.of ((e1.trans e2) _ _ h)⟩, r _ H2 e2 (wk_l (K := K) (SqL.of ((e1.trans e2) _ _ h)))⟩)
  · exact .inr (ht H1 e1 _ fun H2 e2 => ⟨a, rfl, ⟨_, (h.ex (e1.trans e2)).sq⟩, r _ H2 e2 (wk_t (K := K) (h.ex (e1.trans e2)).sq)⟩)
theorem ev_allF {n : Nat} {f : Nat → Bool} (h : EvL te σ H ((List.range n).map fun i => V.bl (f i))) : Ev (tCB (rAll K) (tCons te tNil)) σ H (.bl ((List.range n).all f)) := fun H1 e Q q =>
  h H1 e _ fun p H2 _ e2 h2 => ⟨p, (List.range n).map f, rfl, SqL.of (by rw [h2, List.map_map]; rfl), by
    have z : ((List.range n).map f).all id = (List.range n).all f := by rw [List.all_map]; rfl
    rw [z]
    exact q H2 e2⟩
theorem el_enum {j2 : Nat} (f : Nat → V) (ht : EvL tl σ H xs) (few : xs.length ≤ 100) (hw : ∀ x y, wipe (((wipe σ vs).set j (some x)).set j2 (some y)) vs = wipe σ vs)
    (it : ∀ (i : Nat) y H1, Ex H H1 → xs[i]? = some y → Ev te (((wipe σ vs).set j (some (.int (i : Int)))).set j2 (some y)) H1 (f i)) : EvL (tLc (iEnum K (tCons tl tNil)) (gTup K 2 (gCons (gName j) (gCons (gName j2) gNil))) tYes te vs) σ H ((List.range xs.length).map f) := by
  intro H1 e1 Q q
  refine ht H1 e1 _ fun p H2 hp e2 hp2 => ⟨p, xs, rfl, SqL.of hp2, fun D hD => ?_⟩
  have wk := wk_el (SqL.of (K := K) hp2)
  refine lc_any (J := Ite K p) (n := xs.length) (fun i H' => Ex H2 H' ∧ H' D = some (.lst ((List.range i).map f))) ⟨Ex.new hD, upd_same⟩ (fun i H' hi p => wk.go i H' p.1 hi) (fun H' p => wk.stop H' p.1) ?_ (fun H' p => q D H' (fresh_back e2 hD) (e2.trans p.1) p.2)
  rintro i H3 y H4 hi ⟨e3, hDl⟩ yl
  obtain ⟨T', z, rfl, hT, rfl, hz⟩ := wk.yld i H3 y H4 e3 hi yl
  refine ⟨T', _, rfl, SqT.of upd_same, rfl, _, _, rfl, _, _, rfl, rfl, hw _ _, tt_yes ?_⟩
  have e4 : Ex H2 (upd H3 T' (.tup [.int (i : Int), z])) := e3.trans (Ex.new hT)
  refine it i z _ ((e1.trans e2).trans e4) hz _ (Ex.refl _) _ fun H5 e5 => ?_
  refine ⟨_, e5 _ _ ((Ex.new hT) _ _ hDl), sz_lt (by simp; omega), Ex.mut (e4.trans e5) hD, ?_⟩
  rw [upd_same, List.range_succ]
  simp
theorem or_seqI {R : It → Hp → Prop} {H0 : Hp} (ht : ∀ Q : VK, Q (.ref a) H → tl σ H Q) (e : Ex H0 H) (hs : Seq K H0 a xs) (k : ∀ J, Wk J H0 xs.length (yPl xs) → R J H) : iList K tl σ H R ∨ iTup K tl σ H R := by
  rcases hs with h | h
  · exact .inl (ht _ ⟨a, rfl, ⟨_, SqL.of (e _ _ h)⟩, k _ (wk_l (K := K) (SqL.of h))⟩)
  · exact .inr (ht _ ⟨a, rfl, ⟨_, (h.ex e).sq⟩, k _ (wk_t (K := K) h.sq)⟩)
theorem at_int {zs : List Int} {i : Nat} {y : V} (h : (intV zs)[i]? = some y) : ∃ z, zs[i]? = some z ∧ y = .int z := by
  unfold intV at h
  rw [List.getElem?_map] at h
  cases e : zs[i]? with
  | none => rw [e] at h; cases h
  | some z =>
    rw [e] at h
    exact ⟨z, rfl, (Option.some.inj h).symm⟩
/-- s.index(z) -/
theorem ev_indexI (h : Ev te σ H (.ref a)) (hb : Ev tb σ H (.int z)) (hs : Seq K H a (intV zs)) (hz : z ∈ zs) : Ev (tOrE (tBM K "list" (rIndex K) te (tCons tb tNil)) (tBMT (rIndexTI K) te (tCons tb tNil))) σ H (.int (ixI z zs : Int)) := fun H1 e1 Q q => by
  rcases hs with hs | hs
  · refine .inl (h H1 e1 _ fun H2 e2 => ⟨.inl ⟨rfl, _, SqL.of (e2 _ _ (e1 _ _ hs))⟩, hb H2 (e1.trans e2) _ fun H3 e3 => ?_⟩)
    have e := (e1.trans e2).trans e3
    refine ⟨a, intV zs, .int z, ixI z zs, .int z, rfl, rfl, SqL.of (e _ _ hs), rfl, ?_, ?_, ?_, fun k z' hk hz' => ?_, q H3 (e2.trans e3)⟩
    · unfold intV
      rw [List.all_map]
      exact List.all_eq_true.mpr fun _ _ => rfl
    · unfold intV
      rw [List.getElem?_map, (ixI_spec hz).1]
      rfl
    · show decide (z = z) = true
      simp
    · unfold intV at hz'
      rw [List.getElem?_map] at hz'
      cases e4 : zs[k]? with
      | none => rw [e4] at hz'; cases hz'
      | some y =>
        rw [e4] at hz'
        cases hz'
        have ne := (ixI_spec hz).2 k y hk e4
        show decide (y = z) = false
        simp
        exact ne
  · refine .inr (h H1 e1 _ fun H2 e2 => ⟨?_, hb H2 (e1.trans e2) _ fun H3 e3 => ⟨a, zs, z, rfl, rfl, (hs.ex ((e1.trans e2).trans e3)).sq, hz, q H3 (e2.trans e3)⟩⟩)
    exact ⟨a, _, rfl, hs.ex (e1.trans e2)⟩
/-- s[i] -/
theorem ev_atI {i : Nat} {y : V} (h : Ev te σ H (.ref a)) (hb : Ev tb σ H (.int (i : Int))) (hs : Seq K H a xs) (hy : xs[i]? = some y) : Ev (tOrE (tOp (rIxL K) te tb) (tOp (rIxT K) te tb)) σ H y := fun H1 e1 Q q => by
  rcases hs with hs | hs
  · exact .inl (ev_op h hb (rv_ixL (SqL.of hs) (atI_nat hy)) H1 e1 Q q)
  · exact .inr (ev_op h hb (rv_ixT hs.sq (atI_nat hy)) H1 e1 Q q)
end
section
variable {P : Program} {w : World} {K : PySem.W.Frag} {mg : Str → Option Value} {base : Heap} {f : Addr} {fd : FuncData}
end
end K52

-- base: law_k08_numbers_of_joint_states
/-! odd states and odd words -/
namespace K52
open PySem L2 L2H LamX LamV Evl OxK
def oddS (n : Nat) : List Dt := [.f (.int (n : Int)), .f (.int (-1)), .f .non, .f (.bl true), .f (.str "0"), .l [.f (.int 0)], .f (.int 100000000000000000000)]
def oddW (x : Str) : List Dt := [.f (.str "A"), .f .non, .f (.str "?"), .f (.int 3), .f (.str (x ++ "q")), .l [.f (.str x)], .f (.str "a b")]
def spOds : Sp := fun vs H Q _ => ∃ (b l : Addr) (ns : List Int) (n : Nat), vs = [.ref b, .int (n : Int)] ∧ Bag H b l ns ∧ ∀ (v : V) (d : Dt) (H' : Hp), d ∈ oddS n → Has (dl b H') 1 v d → Bag H' b l ns → Ex (dl b H) (dl b H') → Q v H'
def spOdw : Sp := fun vs H Q _ => ∃ (b l : Addr) (ns : List Int) (x : Str), vs = [.ref b, .str x] ∧ x.length ≤ 1000 ∧ Bag H b l ns ∧ ∀ (v : V) (d : Dt) (H' : Hp), d ∈ oddW x → Has (dl b H') 1 v d → Bag H' b l ns → Ex (dl b H) (dl b H') → Q v H'
section
variable {P : Program} {w : World} {K : PySem.W.Frag} {mg : Str → Option Value} {base : Heap} {f : Addr} {fd : FuncData}
end
end K52

/-! a list comprehension whose items raise: what they raise leaves the comprehension and is in the air of the def -/
namespace PySem
/-- what stands behind a comprehension's block; an error: with the block's own environment -/
def cpX (M : Model) (A : Around) (E : Value → Shared → Prop) (use : Option (Value → Sem Unit)) (Q : Value → Shared → Prop) (acc : Value) (ce : Env) : Result → Shared → Prop
  | .ok _, z => match use with
    | none => ∃ m, z.heap.Ns ce.locals m ∧ ∀ g, Heap.SameBut ce.locals z.heap g → Q acc { z with heap := g }
    | some u => wpAny M A (u acc) (fun _ y => ∃ m, y.heap.Ns ce.locals m ∧ ∀ g, Heap.SameBut ce.locals y.heap g → Q .none { y with heap := g }) E z
  | .error x, z => ∃ m, z.heap.Ns ce.locals m ∧ ∀ g, Heap.SameBut ce.locals z.heap g → wpAny M A (passOn "comprehension.variables-let-go" x ce : Sem Value) (fun _ _ => False) E { z with heap := g }
section
variable {M : Model} {A : Around} {E : Value → Shared → Prop} {s : Shared} {env : Env}
theorem wpAny_compX {e : Expr} {scope : Scope} {pos : Pos} {newAcc first : Sem Value} {g : Comprehension} {gs : List Comprehension} {cl : List (Str × Addr)} {use : Option (Value → Sem Unit)} {Q : Value → Shared → Prop}
    (hcl : clausesOf e = g :: gs) (hs : ∀ x, foldedSetIterable g.iter env x = pure x) (hclos : closureFor scope env = pure cl) (hkind : scope.kind = .function) (hnames : ∀ x ∈ scope.names, x.2 = .local → scope.names.lookup x.1 = some .local)
    (h : wpAny M A first (fun x t1 => wpAny M A (pyIter x) (fun it t2 => wpAny M A newAcc (fun acc t3 =>
      wpAny M A (newFunctionEnv scope env.globals cl [] env.qual none .none (some env)) (fun c0 t4 =>
        codeAny M A (.compStart e 0 it acc { c0 with scope := relabel scope env }) (cpX M A E use Q acc { c0 with scope := relabel scope env }) t4) E t3) E t2) E t1) E s) :
    wpAny M A (comprehension e scope env pos newAcc false first use) Q E s := by
  unfold comprehension
  rw [hclos, hcl]
  have id' : ∀ (x : Value) (t : Shared), E x t → E x t := fun _ _ z => z
  refine wpAny_bind (wpAny_mono h (fun x t1 k1 => wpAny_bind (wpAny_standAt (wpAny_bind (wpAny_of_eq (hs x) (wpAny_bind (wpAny_holding (wpAny_mono k1 (fun it t2 k2 =>
    wpAny_standIf (wpAny_bind (wpAny_mono k2 (fun acc t3 k3 => wpAny_bind (wpAny_pure (wpAny_bind (wpAny_mono k3 (fun c0 t4 k4 => ?_) id')))) id'))) id'))))))) id')
  dsimp only
  have sub : ∀ x ∈ (scope.names.filter fun x => (x.2 == .local || x.2 == .cell) && x.1 != (".0" : Str)).reverse, x.2 = .local → Env.kindOf { c0 with scope := relabel scope env } x.1 = some .local :=
    fun x hx hl => lookup_relabel_local (hnames x (List.mem_filter.mp (List.mem_reverse.mp hx)).1 hl)
  refine wpAny_holding (wpAny_bind (wpAny_attempt (wpAny_holding (wpAny_run (codeAny_mono k4 fun r t5 hr => ?_)))))
  cases r with
  | error x =>
    obtain ⟨m, hn, hr⟩ := (show ∃ m, t5.heap.Ns c0.locals m ∧ ∀ g, Heap.SameBut c0.locals t5.heap g → wpAny M A (passOn "comprehension.variables-let-go" x { c0 with scope := relabel scope env } : Sem Value) (fun _ _ => False) E { t5 with heap := g } from hr)
    exact wpAny_bind (wpAny_holding (wpAny_comp_letGo (cenv := { c0 with scope := relabel scope env }) hkind _ t5 m sub hn fun g _ _ sb => wpAny_mono (hr g sb) (fun _ _ z => z.elim) id'))
  | ok f =>
    cases use with
    | none =>
      obtain ⟨m, hn, hr⟩ := hr
      exact wpAny_bind (wpAny_holding (wpAny_comp_letGo (cenv := { c0 with scope := relabel scope env }) hkind _ t5 m sub hn fun g _ _ sb => wpAny_pure (hr g sb)))
    | some u =>
      refine wpAny_bind (wpAny_rule (wpAny_bind (wpAny_holding (wpAny_mono hr (fun _ t6 hr2 => ?_) id'))))
      obtain ⟨m, hn, hr2⟩ := hr2
      refine wpAny_bind (wpAny_comp_letGo (cenv := { c0 with scope := relabel scope env }) hkind _ t6 m (fun x hx hl => ?_) hn fun g _ _ sb => wpAny_pure (hr2 g sb))
      rcases List.mem_append.mp hx with q | q
      · exact sub x (List.mem_of_mem_drop q) hl
      · exact sub x (List.mem_of_mem_take q) hl
end
theorem noteFrame_of {e : Value} {a b : Env} (h : a.frame = b.frame) : noteFrame e a = noteFrame e b := by
  unfold noteFrame frameOf
  rw [h]
end PySem
namespace L2
open PySem PySem.Spec PyProof.Rows
/-- in the air of a block: new, or come out of a call -/
def XEb (X : Cx) (W : XK) (u : Value) (s' : Shared) : Prop :=
  ∃ (a : Addr) (B : Heap) (sI : Shared) (pins : List (Addr × Obj)) (σ : St) (H : Hp) (cls : Value) (d : Option Addr), u = .ref a ∧ Inv X pins σ H sI ∧ (∀ b o, sI.heap.get? b = some o → b ∉ frs X.stack → B.get? b = some o) ∧ sI.heap.UpToSlots s'.heap ∧
    HandSPX.FlyingZ B X.stack a (Zc cls d) s'.heap ∧ H a = none ∧ s'.os = sI.os ∧ AllBare s'.gens ∧ W cls d H
/-- the context of a block whose items may raise W -/
abbrev Cx.blkX (X : Cx) (W : XK) (s : Shared) (H : Hp) (scope : Scope) (cenv : Env) (fp : List Addr) : Cx := { X.blk s H scope cenv fp with xe := XEb (X.blk s H scope cenv fp) W }
section
variable {X : Cx} {W : XK} {s0 : Shared} {H0 : Hp} {scope : Scope} {ce : Env} {fp : List Addr} {pins : List (Addr × Obj)} {σ : St} {H : Hp} {s : Shared}
theorem Inv.toBX (I : Inv (X.blk s0 H0 scope ce fp) pins σ H s) : Inv (X.blkX W s0 H0 scope ce fp) pins σ H s :=
  have ok := I.ok
  ⟨⟨ok.mod, ok.kind, ok.glob, ok.blt, ok.above, ok.inj, ok.has, ok.cab, ok.hd, ok.frames, ok.stk, ok.exf, ok.bs, ok.bsz, ok.noex, ok.exfs, ok.funs, ok.frf⟩, I.os, I.bare, I.base, I.loc, I.cell, I.free, I.freeC, I.pin, I.hok, I.len⟩
theorem Inv.ofBX (I : Inv (X.blkX W s0 H0 scope ce fp) pins σ H s) : Inv (X.blk s0 H0 scope ce fp) pins σ H s :=
  have ok := I.ok
  ⟨⟨ok.mod, ok.kind, ok.glob, ok.blt, ok.above, ok.inj, ok.has, ok.cab, ok.hd, ok.frames, ok.stk, ok.exf, ok.bs, ok.bsz, ok.noex, ok.exfs, ok.funs, ok.frf⟩, I.os, I.bare, I.base, I.loc, I.cell, I.free, I.freeC, I.pin, I.hok, I.len⟩
/-- what a call within the block lets out -/
theorem passes_blk {E : XK} (hW : ∀ cls d H', E cls d H' → W cls d H') : Passes (CX X.prog X.w) (X.blkX W s0 H0 scope ce fp) E := fun pins σ H s u s' I c => by
  -- the call's exception over the block's state without it
  obtain ⟨a, B, H', cls, d, rfl, fl, hok, ub, na, os, ag, hE⟩ := c
  have I := I.ofBX
  obtain ⟨G, g1, g2⟩ := restrict s'.heap fun b => (B.get? b).isSome || decide (b ∈ frs X.stack)
  have st : B.StaysIn s'.heap := fl.1
  have gB : ∀ b o, B.get? b = some o → G.get? b = some o := fun b o e => (g1 b (by simp [e])).trans (st b o e)
  have gF : ∀ b, b ∈ frs X.stack → G.get? b = s'.heap.get? b := fun b hb => g1 b (by simp [hb])
  have og : ∀ b o, G.get? b = some o → s'.heap.get? b = some o ∧ ((B.get? b).isSome = true ∨ b ∈ frs X.stack) := fun b o e => by
    cases q : ((B.get? b).isSome || decide (b ∈ frs X.stack)) with
    | true => exact ⟨(g1 b q).symm.trans e, by simpa [Bool.or_eq_true] using q⟩
    | false => exact absurd ((g2 b q).symm.trans e) (by simp)
  refine ⟨a, B, { s with heap := G, gens := s'.gens, drawn := s'.drawn, toks := s'.toks }, pins, σ, H', cls, d, rfl, ?_, fun b o e hb => ?_, Heap.UpToSlots.of_keeps fun b o e => (og b o e).1, fl, na, os, ag, hW _ _ _ hE⟩
  · have slots : ∀ b o, s.heap.get? b = some o → b ∈ frs X.stack → ∃ sl, G.get? b = some { o with slots := sl } := fun b o e hb =>
      let ⟨sl, q⟩ := ub.slot b o e hb
      ⟨sl, (gF b hb).trans q⟩
    refine I.call (ch := []) ⟨fun b o e n hb _ => gB b o (ub.keep b o e n hb), fun b o e _ hb _ => slots b o e hb, fun b o e n _ => ub.free b o e n, fun b o e _ => ?_, ub.tups, ub.frzs, ub.tbls⟩ (hok.kept gB) ag (fun _ z => nomatch z)
    by_cases hb : b ∈ frs X.stack
    · exact (slots b o e hb).elim fun _ q => ⟨_, q⟩
    · exact (ub.there b o e hb).elim fun o' q => ⟨o', gB b o' q⟩
  · obtain ⟨e', z⟩ := og b o e
    refine z.elim (fun z => ?_) fun z => absurd z hb
    obtain ⟨o', q⟩ := Option.isSome_iff_exists.mp z
    have r := st b o' q
    rw [e'] at r; cases r
    exact q
end
section
variable {X : Cx} {W : WX}
/-- what is in the block's air is, once the block's variables are let go, in the def's -/
theorem blk_out {V : XK} {pins : List (Addr × Obj)} {σ : St} {H3 : Hp} {s3 : Shared} {scope : Scope} {ce : Env} {fp : List Addr} {use : Option (Value → Sem Unit)} {Qf : Value → Shared → Prop} {acc u : Value} {z : Shared}
    (hs : X.stack = X.env :: X.outer) (hf : X.env.frame = some X.env.locals) (tk : Takes X W) (hV : ∀ cls d σ H, V cls d H → W cls d σ H) (I3 : Inv X pins σ H3 s3) (f3 : ∀ b ∈ fp, FpOk X pins H3 b) (cf : ce.frame = X.env.frame) (cL : s3.heap.objs.size = ce.locals)
    (x : XEb (X.blk s3 H3 scope ce fp) V u z) : notedBy (model X.prog X.w) X.A ce (fun e s' => cpX (model X.prog X.w) X.A X.xe use Qf acc ce (.error e) s') u z := by
  obtain ⟨a, B, sI, pins', σ', H, cls, d, rfl, I, nb, up, fl, na, os, ag, w⟩ := x
  have hfr : X.A.frames = some (X.env :: X.outer) := by rw [I3.ok.frames, hs]
  have fl : HandSPX.FlyingZ B (X.env :: X.outer) a (Zc cls d) z.heap := by
    have q : HandSPX.FlyingZ B X.stack a (Zc cls d) z.heap := fl
    rw [hs] at q
    exact q
  show wpAny _ _ (noteFrame (.ref a) ce) _ _ z
  rw [noteFrame_of cf]
  refine HandSPX.looks_onZ Zc.steady hfr hf fl fun h4 hh up4 => ?_
  have up := up.trans up4
  obtain ⟨mC, hnC, _⟩ := I.loc
  have hnC : sI.heap.Ns ce.locals mC := hnC
  refine ⟨mC, up.ns hnC, fun g sb => ?_⟩
  have nC : H ce.locals = none := I.free
  have Cfr : ce.locals ∉ frs X.stack := fun hm => by
    obtain ⟨_, o, ho, _⟩ := I3.stack.mem hm
    exact absurd (Heap.lt_size ho) (by rw [← cL]; exact Nat.lt_irrefl _)
  -- the def's state, the block's variables away
  have J0 : Inv X pins σ H sI := I3.call' (ch := fp) I.os I.base I.hok I.bare fun b hb => ⟨(f3 b hb).2.2.2.1, (f3 b hb).2.1, (f3 b hb).2.2.2.2.1, (f3 b hb).2.2.2.2.2⟩
  obtain ⟨f0, f1, f2, f4, f5, f6⟩ := I3.fpOk (b := ce.locals) (H' := H) (by rw [cL]; exact Nat.le_refl _) nC
  have J : Inv X pins σ H { sI with heap := PySem.W.hideAll sI.heap [ce.locals], toks := sI.toks } :=
    J0.turned (t' := sI.toks) (fun b o hb e => PySem.W.hideAll_get _ e (by simpa using hb)) f0 f1 f4 f5 f6
  obtain ⟨k1, k2, k3, oe, vs, T, oT, ts, he, hz, hd, h1, hnT, hTe, hT, hdT, h3⟩ := hh
  have other : ∀ b o, (∀ m, ¬ (b = ce.locals ∧ m)) → h4.get? b = some o → g.get? b = some o := fun b o hb e => (sb.2 b fun q => hb True ⟨q, trivial⟩).trans e
  have CnotRec : ∀ b o vs, h4.get? b = some o → o.data = .fields vs → b ≠ ce.locals := fun b o vs e q r => by
    obtain ⟨o', es, ep, e', hd', _⟩ := up.ns hnC
    subst r
    have z : h4.get? ce.locals = some o' := e'
    rw [e] at z; cases z
    rw [q] at hd'; cases hd'
  have gO : ∀ b o, b ≠ ce.locals → h4.get? b = some o → g.get? b = some o := fun b o hb e => (sb.2 b hb).trans e
  have Bst : (PySem.W.hideAll B [ce.locals]).StaysIn g := fun b o e => by
    have e0 := PySem.W.of_hideAll _ e
    have hb : b ≠ ce.locals := fun q => by
      subst q
      rw [PySem.W.hideAll_none [ce.locals] (List.mem_singleton.mpr rfl)] at e; cases e
    exact gO b o hb (k1 b o e0)
  have hidN : ∀ b, B.get? b = none → (PySem.W.hideAll B [ce.locals]).get? b = none := fun b e => by
    cases q : (PySem.W.hideAll B [ce.locals]).get? b with
    | none => rfl
    | some o => rw [PySem.W.of_hideAll _ q] at e; cases e
  have frE : ∀ L ∈ frs (X.env :: X.outer), (PySem.W.hideAll B [ce.locals]).get? L = none := fun L hL => hidN L (k3.mem hL).1
  have held : HandSPX.HeldZ (PySem.W.hideAll B [ce.locals]) (X.env :: X.outer) a (Zc cls d) X.env.locals g := by
    refine ⟨Bst, hidN a k2, ?_, oe, vs, T, oT, ts, gO a oe (CnotRec a oe vs he hd) he, hz, hd, h1, hidN T hnT, hTe, gO T oT (CnotRec T oT ts hT hdT) hT, hdT, h3⟩
    have q := funFrames_none k3 frE
    have all : ∀ (l : List Env), (∀ L ∈ frs l, L ∈ frs X.stack) → h4.FunFrames (PySem.W.hideAll B [ce.locals]) l → g.FunFrames (PySem.W.hideAll B [ce.locals]) l := by
      intro l
      induction l with
      | nil => intro _ _; trivial
      | cons env r ih =>
        intro hl ⟨y1, ⟨L, o, y2, y3, y4, y5⟩, y6⟩
        refine ⟨y1, ⟨L, o, y2, y3, gO L o (fun q => Cfr (q ▸ hl L (List.mem_filterMap.mpr ⟨env, List.mem_cons_self, y2⟩))) y4, y5⟩, ih (fun L' hL' => ?_) y6⟩
        obtain ⟨e1, he1, q1⟩ := List.mem_filterMap.mp hL'
        exact hl L' (List.mem_filterMap.mpr ⟨e1, List.mem_cons_of_mem _ he1, q1⟩)
    exact all _ (fun L hL => by rw [hs]; exact hL) q
  -- passed on
  unfold PySem.passOn
  refine wpAny_bind (wpAny_field held.2.2.2.choose_spec.choose_spec.choose_spec.choose_spec.choose_spec.1 held.2.2.2.choose_spec.choose_spec.choose_spec.choose_spec.choose_spec.2.2.1 held.2.2.2.choose_spec.choose_spec.choose_spec.choose_spec.choose_spec.2.2.2.1 ?_)
  rw [if_neg (by simp)]
  have fin : wpAny (model X.prog X.w) X.A (setFlight (.ref a) ce.frame) (fun _ s4 => wpAny (model X.prog X.w) X.A (throw (.ref a) : Sem Value) (fun _ _ => False) X.xe s4) X.xe { { z with heap := h4 } with heap := g } := by
    rw [cf, hf]
    refine HandSPX.setFlight_onZ held fun h5 hh5 up5 => wpAny_throw (tk _ _ ?_)
    refine ⟨a, PySem.W.hideAll B [ce.locals], { sI with heap := PySem.W.hideAll sI.heap [ce.locals], toks := sI.toks }, pins, σ, H, cls, d, rfl, J, fun b o e hb => ?_, fun b o e hnf => ?_, .inr (.inr (by rw [hs]; exact hh5)), na, os, ag, hV _ _ _ _ w⟩
    · have hb2 : b ≠ ce.locals := fun q => by
        subst q
        have e : (PySem.W.hideAll sI.heap [ce.locals]).get? ce.locals = some o := e
        rw [PySem.W.hideAll_none [ce.locals] (List.mem_singleton.mpr rfl)] at e; cases e
      exact PySem.W.hideAll_get _ (nb b o (PySem.W.of_hideAll _ e) hb) (by simpa using hb2)
    · have e : (PySem.W.hideAll sI.heap [ce.locals]).get? b = some o := e
      have hb2 : b ≠ ce.locals := fun q => by
        subst q
        rw [PySem.W.hideAll_none [ce.locals] (List.mem_singleton.mpr rfl)] at e; cases e
      obtain ⟨sl, e1⟩ := up b o (PySem.W.of_hideAll _ e) hnf
      have e2 : g.get? b = some { o with slots := sl } := gO b _ hb2 e1
      obtain ⟨sl2, e3⟩ := up5 b _ e2 hnf
      exact ⟨sl2, e3⟩
  first
    | exact wpAny_bind (wpAny_pure (wpAny_bind fin))
    | exact wpAny_bind fin
end
end L2
namespace L2
open PySem PySem.Spec PyProof.Rows
section
variable {X : Cx} {W : WX} {U : XK} {elt tg iter : Expr} {ifs : List Expr} {scope : Scope} {own : List (Str × Nat)} {pos pos' : Pos} {wi : TI} {g : TG} {tt : TT} {te : TE}
theorem lcX_core {pins : List (Addr × Obj)} {s : Shared} {σ : St} {H : Hp} {Q : VK} {use : Option (Value → Sem Unit)} {Qf : Value → Shared → Prop}
    (hst : X.stack = X.env :: X.outer) (hf : X.env.frame = some X.env.locals) (tk : Takes X W) (hV : ∀ cls d σ H, U cls d H → W cls d σ H)
    (hc : X.calm = true) (hN : X.N.Nodup) (I : Inv X pins σ H s) (hi : PI X tg iter wi) (ok : BlkOk X.N X.env.scope scope own)
    (hg : ∀ (s : Shared) (H : Hp) (C : Addr) (cl : List (Str × Addr)) (fp : List Addr), PG (X.blkX U s H scope (compEnvC scope cl C X.env) fp) tg g)
    (ht : ∀ (s : Shared) (H : Hp) (C : Addr) (cl : List (Str × Addr)) (fp : List Addr), PTs (X.blkX U s H scope (compEnvC scope cl C X.env) fp) ifs tt)
    (he : ∀ (s : Shared) (H : Hp) (C : Addr) (cl : List (Str × Addr)) (fp : List Addr), PE (X.blkX U s H scope (compEnvC scope cl C X.env) fp) elt te) (hs : ∀ x, foldedSetIterable iter X.env x = pure x)
    (h : tLc wi g tt te (own.map (·.2)) σ H Q)
    (hRR : ∀ D (ce : Env) s' m H', Inv X pins σ H' s' → Q (.ref D) H' → s'.heap.Ns ce.locals m → FpOk X pins H' ce.locals → cpX (model X.prog X.w) X.A X.xe use Qf (.ref D) ce (.ok .next) s') :
    wpAny (model X.prog X.w) X.A (comprehension (.ListComp elt [⟨tg, iter, ifs, 0⟩] scope pos) scope X.env pos' (newList []) false (eval iter X.env) use) Qf X.xe s := by
  have hfree : ∀ y ∈ scope.names, y.2 = .free → ∃ c, X.env.cells.lookup y.1 = some c := fun y hy e => (ok.free y hy e).elim (fun k => I.ok.has _ (.inl k)) fun k => I.ok.has _ (.inr k)
  refine wpAny_compX (use := use) rfl hs (closure_ok hfree) ok.kind (fun y hy e => (ok.uniq y hy).trans (by rw [e])) (thn (hi.run pins s σ H _ I h) fun xv z1 hx => thn hx fun itv z2 h2 => ?_)
  obtain ⟨it, fp, tn, J, H2, rfl, I2, T, st2, f2, q⟩ := h2
  refine wpAny_newObj_type (newEnv_comp ?_) (by show 0 ≤ sizeLine; decide)
  generalize hD : z2.heap.objs.size = D
  obtain ⟨Wi, ⟨m0, w0⟩, turn⟩ := q D (I2.hok.fresh (Nat.le_of_eq hD))
  -- the list that is made
  generalize hz3 : ({ z2 with heap := z2.heap.push { cls := .type "list", data := .seq ([] : List Value).toArray } } : Shared) = z3
  have h3 : z3.heap = z2.heap.push { cls := .type "list", data := .seq ([] : List Value).toArray } := by rw [← hz3]
  have I3 : Inv X pins σ (upd H2 D (.lst [])) z3 := by
    subst hz3 hD
    exact I2.laid (t' := z2.toks) (fun b o e => Heap.get?_push_of_some _ e) (Nat.le_refl _) ⟨Nat.zero_le _, [], 0, .nil, Heap.get?_push_size _ rfl⟩
  have f3 : ∀ b ∈ fp, FpOk X pins (upd H2 D (.lst [])) b ∧ b < z3.heap.objs.size := fun b hb => by
    obtain ⟨o, e, _⟩ := T.obj _ _ st2 b hb
    have hlt := Heap.lt_size e
    exact ⟨⟨(upd_ne (by rw [← hD]; exact Nat.ne_of_lt hlt)).trans (f2 b hb).1, (f2 b hb).2⟩, by rw [h3, Heap.size_push]; exact Nat.lt_succ_of_lt hlt⟩
  have st3 : tn 0 z3.heap := T.keep _ _ _ st2 fun b _ o e => h3 ▸ Heap.get?_push_of_some _ e
  have I4 := (block_start I3 ok hN f3).toBX (W := U)
  have pg := hg z3 (upd H2 D (.lst [])) z3.heap.objs.size (cellsFrom (z3.heap.objs.size + 1) scope.names (cloFrom X.env.cells scope.names [])) fp
  have pt := ht z3 (upd H2 D (.lst [])) z3.heap.objs.size (cellsFrom (z3.heap.objs.size + 1) scope.names (cloFrom X.env.cells scope.names [])) fp
  have pe := he z3 (upd H2 D (.lst [])) z3.heap.objs.size (cellsFrom (z3.heap.objs.size + 1) scope.names (cloFrom X.env.cells scope.names [])) fp
  show codeAny _ _ (.compStart (.ListComp elt [⟨tg, iter, ifs, 0⟩] scope pos) 0 (.ref it) (.ref D) (compEnvC scope (cellsFrom (z3.heap.objs.size + 1) scope.names (cloFrom X.env.cells scope.names [])) z3.heap.objs.size X.env))
    (cpX (model X.prog X.w) X.A X.xe use Qf (.ref D) (compEnvC scope (cellsFrom (z3.heap.objs.size + 1) scope.names (cloFrom X.env.cells scope.names [])) z3.heap.objs.size X.env)) { z3 with heap := pushCells (z3.heap.push { cls := .type "dict", data := .dict #[] }) scope.names }
  have nfp : ∀ b ∈ fp, (upd H2 D (.lst [])) b = none := fun b hb => (f3 b hb).1.1
  generalize hce : compEnvC scope (cellsFrom (z3.heap.objs.size + 1) scope.names (cloFrom X.env.cells scope.names [])) z3.heap.objs.size X.env = ce at I4 pg pt pe ⊢
  have cL : z3.heap.objs.size = ce.locals := by subst hce; rfl
  have cF : ce.frame = X.env.frame := by subst hce; rfl
  generalize hH3 : upd H2 D (.lst []) = H3 at I3 I4 pg pt pe w0 nfp f3
  generalize hz4 : ({ z3 with heap := pushCells (z3.heap.push { cls := .type "dict", data := .dict #[] }) scope.names } : Shared) = z4 at I4 ⊢
  have st4 : tn 0 z4.heap := T.keep _ _ _ st3 fun b _ o e => by subst hz4; exact pushCells_keeps _ _ _ _ (Heap.get?_push_of_some _ e)
  have stat : ∀ {σ' : St} {H' : Hp} {s' : Shared}, Inv (X.blkX U z3 H3 scope ce fp) [] σ' H' s' → (∀ b ∈ fp, H' b = none) → ∀ b ∈ fp, FpOk (X.blkX U z3 H3 scope ce fp) [] H' b := fun I' hn b hb =>
    ⟨hn b hb, (I'.ok.exf b hb).1, I'.ok.exfs b hb, .inl hb, fun x c e => (I'.ok.exf b hb).2 x c e, fun p hp => nomatch (show p ∈ ([] : List (Addr × Obj)) ++ [] from hp)⟩
  have out : ∀ e y, (X.blkX U z3 H3 scope ce fp).xe e y → notedBy (model X.prog X.w) X.A ce (fun e s' => cpX (model X.prog X.w) X.A X.xe use Qf (.ref D) ce (.error e) s') e y := fun e y x => blk_out hst hf tk hV I3 (fun b hb => (f3 b hb).1) cF cL x
  have loop : codeAny (model X.prog X.w) X.A (.compLoop (.ListComp elt [⟨tg, iter, ifs, 0⟩] scope pos) 0 (.ref it) (.ref D) ce) (cpX (model X.prog X.w) X.A X.xe use Qf (.ref D) ce) z4 := by
    refine compLoop_any (fun n s' => ∃ i H', Inv (X.blkX U z3 H3 scope ce fp) [] (wipe σ (own.map (·.2))) H' s' ∧ tn i s'.heap ∧ (∀ b ∈ fp, H' b = none) ∧ Wi i n H') ?_ m0 ⟨0, H3, I4, st4, nfp, w0⟩
    rintro n z5 ⟨i, H5, I5, st5, n5, w5⟩
    rcases turn i n H5 w5 with ⟨stop, qq⟩ | ⟨go, Nx, hNx, step⟩
    · refine thnF (T.done (X.blkX U z3 H3 scope ce fp) rfl rfl rfl hc i [] z5 _ H5 (fun _ _ => False) I5 (stat I5 n5) st5 stop) fun r z6 ⟨hr, I6⟩ => ?_
      subst hr
      have I7 : Inv X pins σ H5 z6 := I3.call' (ch := fp) I6.os I6.base I6.hok I6.bare fun b hb => ⟨(f3 b hb).1.2.2.2.1, (f3 b hb).1.2.1, (f3 b hb).1.2.2.2.2.1, (f3 b hb).1.2.2.2.2.2⟩
      obtain ⟨m, hn, _⟩ := I6.loc
      exact hRR D ce z6 m H5 I7 qq hn (I3.fpOk (Nat.le_of_eq cL) I6.free)
    · refine thnF (T.item (X.blkX U z3 H3 scope ce fp) rfl rfl rfl hc i [] z5 _ H5 (fun _ _ => False) I5 (stat I5 n5) st5 go) fun r z6 ⟨u, hr, h6⟩ => ?_
      subst hr
      refine thnF h6 fun _ z7 ⟨x, H7, I7, r7, y7, st7, n7⟩ => ?_
      refine wpAny_mono (pg.run _ z7 _ H7 x u _ (I7.pinned (stat I7 n7) (T.obj _ _ st7)) r7 (step x H7 y7)) (fun _ z8 ⟨σ8, H8, I8, hw8, q8⟩ => ?_) out
      refine wpAny_mono (pt.run _ z8 σ8 H8 _ I8 q8) (fun b z9 ⟨H9, I9, q9⟩ => ?_) out
      have fin : ∀ {y : Shared} {H' : Hp}, Inv (X.blkX U z3 H3 scope ce fp) ([] ++ pinsAt fp z7.heap) σ8 H' y → Nx H' → ∃ m, m < n ∧ ∃ i H', Inv (X.blkX U z3 H3 scope ce fp) [] (wipe σ (own.map (·.2))) H' y ∧ tn i y.heap ∧ (∀ b ∈ fp, H' b = none) ∧ Wi i m H' := fun {y H'} I' nx => by
        obtain ⟨m', hm, w'⟩ := hNx H' nx
        have held : ∀ b ∈ fp, ∀ o, z7.heap.get? b = some o → y.heap.get? b = some o ∧ H' b = none := fun b hb o e =>
          have r := I'.pin (b, o) (List.mem_append_right _ (List.mem_append_right _ (mem_pinsAt hb e)))
          ⟨r.1, r.2.1⟩
        refine ⟨m', hm, i + 1, H', (I'.unpinned (pins := [])).weak (by rw [← hw8, wipe_length]) (fun j v e => (wipe_some (hw8 ▸ e)).1), T.keep _ _ _ st7 fun b hb o e => (held b hb o e).1, fun b hb => ?_, w'⟩
        obtain ⟨o, e, _⟩ := T.obj _ _ st7 b hb
        exact (held b hb o e).2
      cases b with
      | false => exact fin I9 q9
      | true =>
        refine wpAny_mono (pe.run _ z9 σ8 H9 _ I9 q9) (fun v z10 ⟨yv, H10, I10, r10, acc, hD10, hz10, nx⟩ => ?_) out
        exact app_ok (X := X.blkX U z3 H3 scope ce fp) I10 hD10 hz10 r10 fun z11 I11 => fin I11 nx
  exact codeAny_compStart_list loop (T.self X.A 0 _ _ _ st4 loop)
/-- as a value, in a def that lets out what its items raise -/
theorem pe_lcX (hst : X.stack = X.env :: X.outer) (hf : X.env.frame = some X.env.locals) (tk : Takes X W) (hV : ∀ cls d σ H, U cls d H → W cls d σ H)
    (hc : X.calm = true) (hN : X.N.Nodup) (hi : PI X tg iter wi) (ok : BlkOk X.N X.env.scope scope own)
    (hg : ∀ (s : Shared) (H : Hp) (C : Addr) (cl : List (Str × Addr)) (fp : List Addr), PG (X.blkX U s H scope (compEnvC scope cl C X.env) fp) tg g)
    (ht : ∀ (s : Shared) (H : Hp) (C : Addr) (cl : List (Str × Addr)) (fp : List Addr), PTs (X.blkX U s H scope (compEnvC scope cl C X.env) fp) ifs tt)
    (he : ∀ (s : Shared) (H : Hp) (C : Addr) (cl : List (Str × Addr)) (fp : List Addr), PE (X.blkX U s H scope (compEnvC scope cl C X.env) fp) elt te) (hs : ∀ x, foldedSetIterable iter X.env x = pure x := by intro _; rfl) :
    PE X (.ListComp elt [⟨tg, iter, ifs, 0⟩] scope pos) (tLc wi g tt te (own.map (·.2))) := by
  refine ⟨fun pins s σ H Q I h => ?_⟩
  rw [eval_ListComp]
  refine lcX_core hst hf tk hV hc hN I hi ok hg ht he hs h fun D ce y m H' I' q hn ⟨f0, f1, f2, f3, f4, f5⟩ => ⟨m, hn, fun k sb => ?_⟩
  exact ⟨.ref D, H', I'.turned (t' := y.toks) (fun b o hb e => (sb.2 b hb).trans e) f0 f1 f3 f4 f5, rfl, q⟩
/-- name = [..] -/
theorem ps_setLcX {i : Nat} {y : Str} {py spos : Pos} (hst : X.stack = X.env :: X.outer) (hf : X.env.frame = some X.env.locals) (tk : Takes X W) (hV : ∀ cls d σ H, U cls d H → W cls d σ H)
    (hc : X.calm = true) (hN : X.N.Nodup) (hy : X.N[i]? = some y) (hyl : X.env.scope.names.lookup y = some .local)
    (hsw : swapsWith (.ListComp elt [⟨tg, iter, ifs, 0⟩] scope pos) (some (.Name y py)) spos.line X.env = pure true) (hi : PI X tg iter wi) (ok : BlkOk X.N X.env.scope scope own)
    (hg : ∀ (s : Shared) (H : Hp) (C : Addr) (cl : List (Str × Addr)) (fp : List Addr), PG (X.blkX U s H scope (compEnvC scope cl C X.env) fp) tg g)
    (ht : ∀ (s : Shared) (H : Hp) (C : Addr) (cl : List (Str × Addr)) (fp : List Addr), PTs (X.blkX U s H scope (compEnvC scope cl C X.env) fp) ifs tt)
    (he : ∀ (s : Shared) (H : Hp) (C : Addr) (cl : List (Str × Addr)) (fp : List Addr), PE (X.blkX U s H scope (compEnvC scope cl C X.env) fp) elt te) (hs : ∀ x, foldedSetIterable iter X.env x = pure x := by intro _; rfl) :
    PS X (.Assign [.Name y py] (.ListComp elt [⟨tg, iter, ifs, 0⟩] scope pos) spos) (tAsg (tLc wi g tt te (own.map (·.2))) (gName i)) := by
  refine ⟨fun pins s σ H D I h => ?_⟩
  rw [exec_Assign_Name_used _ _ _ _ hsw]
  refine wpAny_bind (wpAny_standAt (wpAny_bind ?_))
  have h : tLc wi g tt te (own.map (·.2)) σ H (fun x H1 => gName i x σ H1 D.nx) := h
  refine wpAny_bind (thn (lcX_core (Qf := fun _ s' => SP X pins D .next s') (use := some (assign (.Name y py) X.env)) hst hf tk hV hc hN I hi ok hg ht he hs h fun L ce y1 m H' I' q hn ⟨f0, f1, f2, f3, f4, f5⟩ => ?_) fun _ s' hq => wpAny_pure (wpAny_pure hq))
  show wpAny _ _ (assign (.Name y py) X.env (.ref L)) _ _ _
  refine wpAny_assign_Name (store_ok2 (v := V.ref L) I' hN hy (.inl hyl) rfl (fun y2 I2 ⟨a, sb, ha⟩ => ?_) (.inr hyl))
  have haC : ce.locals ≠ a := ha.elim (fun z => z ▸ f1) fun z => fun e => f4 y a z e.symm
  exact ⟨m, hn.sameBut sb haC, fun k sb3 => ⟨_, H', I2.turned (t' := y2.toks) (fun b o hb e => (sb3.2 b hb).trans e) f0 f1 f3 f4 f5, q⟩⟩
end
end L2

/-! a comprehension whose i-th item raises -/
namespace L2
open PySem PySem.Spec PyProof.Rows Evl
/-- a comprehension over a walk that changes nothing, whose items are values (up to 1000) -/
theorem lc_valsK {wi : TI} {te : TE} {σ : L2.St} {H : Hp} {j : Nat} {vs : List Nat} {n : Nat} {yl : Nat → V → Hp → Hp → Prop} (v : Nat → V) (hwi : ∀ H1, Ex H H1 → ∀ R : It → Hp → Prop, (∀ J H2, Ex H1 H2 → Wk J H2 n yl → R J H2) → wi σ H1 R) (hn : n ≤ 1000) (hy : ∀ i y H1 H2, yl i y H1 H2 → H2 = H1)
    (hw : ∀ x, wipe ((wipe σ vs).set j (some x)) vs = wipe σ vs) (it : ∀ i y H1, Ex H H1 → i < n → yl i y H1 H1 → Ev te ((wipe σ vs).set j (some y)) H1 (v i)) :
    EvL (tLc wi (gName j) tYes te vs) σ H ((List.range n).map v) := by
  intro H0 e0 Q q
  refine hwi H0 e0 _ fun J H1 e1 wk D hD => ?_
  refine ⟨fun i m H' => i + m = n ∧ Ex H1 H' ∧ H' D = some (.lst ((List.range i).map v)), ⟨n, Nat.zero_add n, Ex.new hD, upd_same⟩, ?_⟩
  rintro i m H4 ⟨im, e4, hDl⟩
  cases m with
  | zero =>
    cases (show i = n from im)
    exact .inl ⟨wk.stop H4 e4, q D H4 (fresh_back e1 hD) (e1.trans e4) hDl⟩
  | succ k =>
    have hi : i < n := by omega
    refine .inr ⟨wk.go i H4 e4 hi, fun H' => Ex H1 H' ∧ H' D = some (.lst ((List.range (i + 1)).map v)), fun H' p' => ⟨k, Nat.lt_succ_self k, by omega, p'⟩, fun y H5 yl' => ?_⟩
    have yy := wk.yld i H4 y H5 e4 hi yl'
    have r := hy _ _ _ _ yy
    subst r
    refine ⟨hw y, tt_yesZ ?_⟩
    refine it i y _ ((e0.trans e1).trans e4) hi yy _ (Ex.refl _) _ fun H6 e6 => ?_
    refine ⟨_, e6 _ _ hDl, sz_lt (by simp; omega), Ex.mut (e4.trans e6) hD, ?_⟩
    rw [upd_same, List.range_succ]
    simp
/-- the items ahead of the iX-th are values, the iX-th never comes -/
theorem lc_stops {wi : TI} {te : TE} {σ : L2.St} {H : Hp} {j : Nat} {vs : List Nat} {n : Nat} {yl : Nat → V → Hp → Hp → Prop} (v : Nat → V) (iX : Nat) (hX : iX < n) (hwi : ∀ H1, Ex H H1 → ∀ R : It → Hp → Prop, (∀ J H2, Ex H1 H2 → Wk J H2 n yl → R J H2) → wi σ H1 R) (hn : n ≤ 1000)
    (hy : ∀ i y H1 H2, yl i y H1 H2 → H2 = H1) (hw : ∀ x, wipe ((wipe σ vs).set j (some x)) vs = wipe σ vs) (it : ∀ i y H1, Ex H H1 → i < iX → yl i y H1 H1 → Ev te ((wipe σ vs).set j (some y)) H1 (v i))
    (itX : ∀ y H1, Ex H H1 → yl iX y H1 H1 → ∀ Q, te ((wipe σ vs).set j (some y)) H1 Q) : ∀ H0 Q, Ex H H0 → tLc wi (gName j) tYes te vs σ H0 Q := by
  intro H0 Q e0
  refine hwi H0 e0 _ fun J H1 e1 wk D hD => ?_
  refine ⟨fun i m H' => i + m = n ∧ i ≤ iX ∧ Ex H1 H' ∧ H' D = some (.lst ((List.range i).map v)), ⟨n, Nat.zero_add n, Nat.zero_le _, Ex.new hD, upd_same⟩, ?_⟩
  rintro i m H4 ⟨im, ix, e4, hDl⟩
  cases m with
  | zero => exact absurd (show i = n from im) (by omega)
  | succ k =>
    have hi : i < n := by omega
    refine .inr ⟨wk.go i H4 e4 hi, fun H' => i + 1 ≤ iX ∧ Ex H1 H' ∧ H' D = some (.lst ((List.range (i + 1)).map v)), fun H' p' => ⟨k, Nat.lt_succ_self k, by omega, p'⟩, fun y H5 yl' => ?_⟩
    have yy := wk.yld i H4 y H5 e4 hi yl'
    have r := hy _ _ _ _ yy
    subst r
    refine ⟨hw y, tt_yesZ ?_⟩
    by_cases hlt : i < iX
    · refine it i y _ ((e0.trans e1).trans e4) hlt yy _ (Ex.refl _) _ fun H6 e6 => ?_
      refine ⟨_, e6 _ _ hDl, sz_lt (by simp; omega), hlt, Ex.mut (e4.trans e6) hD, ?_⟩
      rw [upd_same, List.range_succ]
      simp
    · cases (show i = iX by omega)
      exact itX y _ ((e0.trans e1).trans e4) yy _
end L2

-- base: law_k52_report_texts
/-! reports as texts -/
namespace K52
open PySem L2 Evl OxK
theorem wk_strJ {z : Str} {H0 : Hp} : Wk (Its z) H0 (sg z).length (fun i y H1 H2 => H2 = H1 ∧ ∃ c, (sg z)[i]? = some c ∧ y = .str ⟨#[c]⟩) where
  go := fun i H _ hi => by
    show i < z.cps.size
    simpa [sg] using hi
  stop := fun H _ => by
    show z.cps.size ≤ (sg z).length
    simp [sg]
  yld := fun i H x H' _ _ ⟨r, c, hc, e⟩ => ⟨r, c, by simpa [sg] using hc, e⟩
/-- the number that a word of digits is -/
def isNumW (w : Str) : Bool := (decide (1 ≤ w.length) && decide (w.length ≤ 31)) && ((sg w).all fun c => decide (48 ≤ c) && decide (c ≤ 57)) && !((sg w).head? == some 48 && !(w == Str.ofString "0"))
def numW (w : Str) : Option Nat := if isNumW w = true then some (NumText.digitsVal (sg w)) else none
def optV : Option Nat → V
  | some n => .int (n : Int)
  | none => .non
def optT : Option Nat → Str
  | some n => Str.ofString (toString ((n : Nat) : Int))
  | none => Str.ofString "-"
def repT (rs : List (Option Nat)) : Str := Txt.join (Str.ofString ",") (rs.map optT)
def spNin : Sp := fun vs H Q _ => ∃ w : Str, vs = [.str w] ∧ w.length ≤ 1000 ∧ ∀ H', Ex H H' → Q (optV (numW w)) H'
def spRtx (K : PySem.W.Frag) : Sp := fun vs H Q _ => ∃ (p : Addr) (rs : List (Option Nat)), vs = [.ref p] ∧ SqT K H p (rs.map optV) ∧ rs.length ≤ 100 ∧ (∀ n, some n ∈ rs → n ≤ 10 ^ 30) ∧ ∀ H', Ex H H' → Q (.str (repT rs)) H'
def spRnm : Sp := fun vs H Q _ => ∃ (w : Str) (n : Nat), vs = [.str w] ∧ w.length ≤ 1000 ∧ numW w = some n ∧ ∀ H', Ex H H' → Q (.int (n : Int)) H'
def spRnmX (CT : Addr) : Sp := fun vs H Q E => ∃ w : Str, vs = [.str w] ∧ w.length ≤ 1000 ∧ numW w = none ∧ Rz0 CT "InvalidText" H E
theorem optT_len {o : Option Nat} (h : ∀ n, o = some n → n ≤ 10 ^ 30) : (optT o).length ≤ 31 := by
  cases o with
  | none => decide
  | some n =>
    show (Str.ofString (toString ((n : Nat) : Int))).length ≤ 31
    rw [TL.len_tl, TL.tl_num]
    exact TL.numL_len (by omega) (Nat.lt_of_le_of_lt (h n rfl) (by decide))
theorem sum_le31 : ∀ rs : List (Option Nat), (∀ n, some n ∈ rs → n ≤ 10 ^ 30) → ((rs.map optT).map fun x => x.length).sum ≤ 31 * rs.length
  | [], _ => by simp
  | o :: r, h => by
    have a := optT_len (o := o) fun n e => h n (e ▸ List.mem_cons_self)
    have b := sum_le31 r fun n hn => h n (List.mem_cons_of_mem _ hn)
    rw [List.map_cons, List.map_cons, List.sum_cons, List.length_cons]
    omega
theorem log_small {n : Nat} (h : n ≤ 10 ^ 30) : n.log2 < 1920 := by
  by_cases z : n = 0
  · subst z; decide
  · exact (Nat.log2_lt z).mpr (Nat.lt_of_le_of_lt h (by decide))
def partO (w : Str) : Option (Option Nat) := if w = Str.ofString "-" then some none else (numW w).map some
def spRrp (K : PySem.W.Frag) : Sp := fun vs H Q _ => ∃ (t : Str) (rs : List (Option Nat)), vs = [.str t] ∧ t.length ≤ 900 ∧ (Txt.split t (Str.ofString ",")).map partO = rs.map some ∧ ∀ T H', H T = none → Ex H H' → H' T = some (.tup (rs.map optV)) → Q (.ref T) H'
def spRnmE (CT : Addr) : Sp := fun vs H Q E => spRnm vs H Q E ∨ spRnmX CT vs H Q E
def spRrpX (K : PySem.W.Frag) (CT : Addr) : Sp := fun vs H Q E => ∃ v : V, vs = [v] ∧ Rz0 CT "InvalidText" H E ∧ ((∃ T, Kn K H v T ∧ T ≠ "str") ∨ ∃ (t : Str) (i : Nat) (w : Str), v = .str t ∧ t.length ≤ 900 ∧ (Txt.split t (Str.ofString ","))[i]? = some w ∧ partO w = none ∧ ∀ j u, j < i → (Txt.split t (Str.ofString ","))[j]? = some u → (partO u).isSome = true)
theorem tup_of5 {K : PySem.W.Frag} {te : TE} {σ : L2.St} {H : Hp} {xs : List V} {Q : VK} (h : EvL te σ H xs) (k : ∀ l H', H l = none → Ex H H' → H' l = some (.tup xs) → Q (.ref l) H') : tCB (rTupOf K) (tCons te tNil) σ H Q :=
  h H (Ex.refl _) _ fun D H2 hD e2 h2 => ⟨D, _, rfl, .inl ⟨SqL.of h2, fun l hl => k l _ (fresh_back e2 hl) (e2.trans (Ex.new hl)) upd_same⟩⟩
section
variable {P : Program} {w : World} {K : PySem.W.Frag} {mg : Str → Option Value} {base : Heap} {f : Addr} {fd : FuncData}
theorem scNin : FnScope ["word", "digit"] ["word"] (defScope sNin) := ⟨rfl, rfl, rfl, by decide +kernel, rfl, by decide +kernel, by decide +kernel⟩
theorem ok_nin (F : FnP K "number_in" sNin f fd) (T : NoS mg) (gM : ∃ t, mg "MOST_DIGITS" = some (.int 31 t)) : FnOk P w K mg base CX0 1 f fd ["word"] spNin := by
  obtain ⟨tM, gM⟩ := gM
  refine F.ok scNin (fun vs H Q E h => ?_) (fun cdv A outer s H vs Q E hr h => ?_)
  · obtain ⟨w, rfl, _⟩ := h
    rfl
  · obtain ⟨w, rfl, wf, k⟩ := h
    refine ⟨_, PSs.nox (pss_cons (ps_if (PW.pt (pw_or (pt_not (pt_chain op_le op_le pe_int (pe_callB call_len_str (by rfl) T.len PySem.boot_len (pa_cons (pv 0) pa_nil)) (pe_glob (v := .int 31) rfl gM ⟨_, rfl⟩))) (pw_or1 (pt_not (pt_val (pe_callB (cr_all rfl) (by rfl) T.all PyProof.Rows.boot_all (pa_cons (pe_lc (own := [("digit", 1)]) (g := (gName 1)) (tt := tYes) (by rfl) scNin.nd (pi_str (pv 0)) (blkOk_by (own := [("digit", 1)]) (N := ["word", "digit"]) (sc := defScope sNin) (by decide +kernel)) (fun _ _ _ _ _ => pg_name (i := 1) scNin.nd rfl (Or.inl rfl)) (fun _ _ _ _ _ => pts_nil) (fun _ _ _ _ _ => (pe_cmpR op_in_sign (pv 1) pe_str (by with_unfolding_all rfl)))) pa_nil))))))) (pss_one (ps_ret pe_non)) pss_nil)
      (pss_cons (ps_if (PW.pt (pw_and (pt_cmpR op_eq (pe_ix ix_str (pv 0) pe_int (fun _ _ => rfl)) pe_str (nomark _)) (pw_and1 (pt_cmpR op_ne (pv 0) pe_str (nomark _))))) (pss_one (ps_ret pe_non)) pss_nil)
      (pss_one (ps_ret (pe_callTy call_int_str (by rfl) T.int (by decide +kernel) (pa_cons (pv 0) pa_nil)))))), ?_⟩
    have st0 : L2.start (["word", "digit"] : List Str) [V.str w] = [some (V.str w), none] := rfl
    rw [st0]
    have wl : w.length = (sg w).length := by simp [Str.length, sg]
    have allE : w.length ≤ 31 → Ev (tCB (rAll K) (tCons (tLc (iStr (tVar 0)) (gName 1) tYes (tOp (fun x y H Q => ∃ c z, x = V.str ⟨#[c]⟩ ∧ y = V.str z ∧ Q (V.bl (decide (c ∈ z.cps.toList))) H) (tVar 1) (tC (V.str (Str.ofString "0123456789")))) [1]) tNil)) [some (V.str w), none] H (.bl ((sg w).all fun c => decide (48 ≤ c) && decide (c ≤ 57))) := fun h31 => by
      have z := ev_allF (K := K) (n := (sg w).length) (f := fun i => decide (48 ≤ (sg w).getD i 0) && decide ((sg w).getD i 0 ≤ 57)) (te := tLc (iStr (tVar 0)) (gName 1) tYes (tOp (fun x y H Q => ∃ c z, x = V.str ⟨#[c]⟩ ∧ y = V.str z ∧ Q (V.bl (decide (c ∈ z.cps.toList))) H) (tVar 1) (tC (V.str (Str.ofString "0123456789")))) [1]) (σ := [some (V.str w), none]) (H := H)
        (lc_vals (yl := fun i y H1 H2 => H2 = H1 ∧ ∃ c, (sg w)[i]? = some c ∧ y = .str ⟨#[c]⟩) (n := (sg w).length) (fun i => V.bl (decide (48 ≤ (sg w).getD i 0) && decide ((sg w).getD i 0 ≤ 57))) (fun H6 e6 R r => ⟨_, rfl, w, rfl, r (Its w) H6 (Ex.refl H6) wk_strJ⟩) (by omega) (fun _ _ _ _ h => h.1) (fun _ => rfl) fun i2 y2 H6 e6 hi yl => by
          obtain ⟨_, c, hc, rfl⟩ := yl
          rw [List.getD_eq_getElem?_getD, hc]
          refine ev_is (v := V.bl (decide (c ∈ (Str.ofString "0123456789").cps.toList))) (fun H7 e7 Q7 q7 => ⟨_, rfl, c, _, rfl, rfl, q7 H7 (Ex.refl _)⟩) (congrArg V.bl ?_)
          rw [show (Str.ofString "0123456789").cps.toList = [48, 49, 50, 51, 52, 53, 54, 55, 56, 57] from by decide +kernel, Bool.eq_iff_iff]
          simp only [decide_eq_true_iff, Bool.and_eq_true, List.mem_cons, List.mem_nil_iff, or_false, Option.getD_some]
          omega)
      refine ev_is z (congrArg V.bl ?_)
      rw [Bool.eq_iff_iff, List.all_eq_true, List.all_eq_true]
      constructor
      · intro h c hc
        obtain ⟨i, hi, rfl⟩ := List.mem_iff_getElem.mp hc
        have := h i (List.mem_range.mpr hi)
        rw [List.getD_eq_getElem?_getD, List.getElem?_eq_getElem hi] at this
        exact this
      · intro h i hi
        have hi := List.mem_range.mp hi
        rw [List.getD_eq_getElem?_getD, List.getElem?_eq_getElem hi]
        exact h _ (List.getElem_mem hi)
    have chE : EvT (tTest (tChain (rI0 fun i j => V.bl (decide (i ≤ j))) (rI0 fun i j => V.bl (decide (i ≤ j))) (tC (V.int 1)) (tCB (fun xs H Q => ∃ z, xs = [V.str z] ∧ z.length ≤ sizeLine ∧ Q (V.int ↑z.length) H) (tCons (tVar 0) tNil)) (tC (V.int 31)))) [some (V.str w), none] H (decide (1 ≤ w.length) && decide (w.length ≤ 31)) := fun H2 e2 Q2 q2 => by
      refine ⟨_, rfl, w, rfl, sz_of (by omega), _, _, rfl, rfl, _, rfl, ?_⟩
      by_cases h1 : 1 ≤ w.length
      · rw [decide_eq_true (show (1 : Int) ≤ (w.length : Int) by omega)]
        refine iteT ⟨_, _, rfl, rfl, decide (w.length ≤ 31), congrArg V.bl (by rw [decide_eq_decide]; omega), ?_⟩
        rw [decide_eq_true h1, Bool.true_and] at q2
        exact q2 H2 (Ex.refl _)
      · rw [decide_eq_false (show ¬ (1 : Int) ≤ (w.length : Int) by omega)]
        rw [decide_eq_false h1, Bool.false_and] at q2
        exact iteF ⟨_, rfl, q2 H2 (Ex.refl _)⟩
    refine q_when (et_or (et_not chE) (fun h => et_not (et_B (allE (by
      have z : (decide (1 ≤ w.length) && decide (w.length ≤ 31)) = true := by cases z : (decide (1 ≤ w.length) && decide (w.length ≤ 31)) with
        | true => rfl
        | false => rw [z] at h; cases h
      exact of_decide_eq_true (Bool.and_eq_true_iff.mp z).2))))) (fun yes H1 e1 => ?_) (fun no H1 e1 => ?_)
    · have hn : numW w = none := by
        unfold numW isNumW
        rw [if_neg]
        intro z
        have z1 := (Bool.and_eq_true_iff.mp (Bool.and_eq_true_iff.mp z).1)
        rw [z1.1, z1.2] at yes
        cases yes
      have q2 := k H1 e1
      rw [hn] at q2
      exact q2
    · obtain ⟨n1, n2⟩ := Bool.or_eq_false_iff.mp no
      have d1 : (decide (1 ≤ w.length) && decide (w.length ≤ 31)) = true := by
        cases z : (decide (1 ≤ w.length) && decide (w.length ≤ 31)) with
        | true => rfl
        | false => rw [z] at n1; cases n1
      have d2 : ((sg w).all fun c => decide (48 ≤ c) && decide (c ≤ 57)) = true := by
        cases z : ((sg w).all fun c => decide (48 ≤ c) && decide (c ≤ 57)) with
        | true => rfl
        | false => rw [z] at n2; cases n2
      have l1 := of_decide_eq_true (Bool.and_eq_true_iff.mp d1).1
      have l2 := of_decide_eq_true (Bool.and_eq_true_iff.mp d1).2
      obtain ⟨c0, r0, hc⟩ : ∃ c0 r0, sg w = c0 :: r0 := by
        cases z : sg w with
        | nil => rw [z] at wl; simp at wl; omega
        | cons c r => exact ⟨c, r, rfl⟩
      refine q_when (et_and (et_test (ev_is (ev_op (x := V.str w) (y := V.int 0) (z := V.str ⟨#[c0]⟩) (ev_var rfl) ev_c (fun H2 _ Q2 q2 => ⟨w, 0, c0, rfl, rfl, sz_of (by omega), (by show atI (sg w) ((0 : Nat) : Int) = some c0; exact atI_nat (by rw [hc]; rfl)), q2 H2 (Ex.refl _)⟩)) rfl |> fun z => ev_op z ev_c (rv_eq rfl))) (fun _ => et_test (ev_op (ev_var rfl) ev_c (rv_ne rfl)))) (fun yes H2 e2 => ?_) (fun no2 H2 e2 => ?_)
      · have hn : numW w = none := by
          unfold numW isNumW
          rw [if_neg]
          intro z
          have z1 := (Bool.and_eq_true_iff.mp z).2
          obtain ⟨y1, y2⟩ := Bool.and_eq_true_iff.mp yes
          have e0 : c0 = 48 := by
            have := of_decide_eq_true y1
            injection this with this
            have this : [c0] = [48] := (congrArg (fun s : Str => s.cps.toList) this).trans (by decide +kernel)
            injection this
          have e1 : (w == Str.ofString "0") = false := by
            cases q : (w == Str.ofString "0") with
            | false => rfl
            | true =>
              have := eq_of_beq q
              rw [this] at y2
              simp at y2
          rw [hc, e0, e1] at z1
          simp at z1
        have q2 := k H2 (e1.trans e2)
        rw [hn] at q2
        exact q2
      · have d3 : (!((sg w).head? == some 48 && !(w == Str.ofString "0"))) = true := by
          rw [hc]
          rcases Bool.and_eq_false_iff.mp no2 with q | q
          · have : c0 ≠ 48 := fun e => of_decide_eq_false q (by rw [e]; rfl)
            simp [this]
          · have : w = Str.ofString "0" := by
              cases q3 : decide (V.str w = V.str (Str.ofString "0")) with
              | false => rw [q3] at q; cases q
              | true => have := of_decide_eq_true q3; injection this
            rw [this]
            simp
        have hn : numW w = some (NumText.digitsVal (sg w)) := by
          unfold numW isNumW
          rw [if_pos]
          rw [d1, d2, d3]
          rfl
        have ad : NumText.AllDigits (sg w) := fun c hc => by
          have := List.all_eq_true.mp d2 c hc
          simpa using this
        have it := intText_digits (x := w) ad (by show sg w ≠ []; rw [hc]; simp) (by omega)
        have q2 := k H2 (e1.trans e2)
        rw [hn] at q2
        exact ⟨_, rfl, w, _, rfl, it, by omega, q2⟩
theorem scRtx : FnScope ["report", "told"] ["report"] (defScope sRtx) := ⟨rfl, rfl, rfl, by decide +kernel, rfl, by decide +kernel, by decide +kernel⟩
theorem ok_rtx (F : FnP K "report_text" sRtx f fd) (T : NoS mg) : FnOk P w K mg base CX0 1 f fd ["report"] (spRtx K) := by
  refine F.ok scRtx (fun vs H Q E h => ?_) (fun cdv A outer s H vs Q E hr h => ?_)
  · obtain ⟨p, rs, rfl, _⟩ := h
    rfl
  · obtain ⟨p, rs, rfl, hp, few, big, k⟩ := h
    refine ⟨_, PSs.nox (pss_one (ps_ret (pe_join pe_str (pe_lc (own := [("told", 1)]) (g := (gName 1)) (tt := tYes) (by rfl) scRtx.nd (pi_tup (pv 0)) (blkOk_by (own := [("told", 1)]) (N := ["report", "told"]) (sc := defScope sRtx) (by decide +kernel)) (fun _ _ _ _ _ => pg_name (i := 1) scRtx.nd rfl (Or.inl rfl)) (fun _ _ _ _ _ => pts_nil) (fun _ _ _ _ _ => (pe_ifExp (pt_cmp (pc_isN (pv 1))) pe_str (pe_callTy call_str_int (by rfl) T.str (by decide +kernel) (pa_cons (pv 1) pa_nil)))))))), ?_⟩
    have st0 : L2.start (["report", "told"] : List Str) [V.ref p] = [some (V.ref p), none] := rfl
    rw [st0]
    have el : EvL (tLc (iTup K (tVar 0)) (gName 1) tYes (tIf (tB (tIsN (tVar 1))) (tC (V.str (Str.ofString "-"))) (tCB (fun xs H Q => ∃ i, xs = [V.int i] ∧ i.natAbs.log2 < 1920 ∧ Q (V.str (Str.ofString (toString i))) H) (tCons (tVar 1) tNil))) [1]) [some (V.ref p), none] H ((List.range rs.length).map fun i => V.str (optT (rs.getD i none))) :=
      lc_vals (yl := yPl (rs.map optV)) (n := rs.length) (fun i => V.str (optT (rs.getD i none))) (fun H6 e6 R r => ⟨_, rfl, p, rfl, ⟨_, ex_t e6 hp⟩, r (Itt K p) H6 (Ex.refl H6) (by have z := wk_t (K := K) (ex_t e6 hp); rw [List.length_map] at z; exact z)⟩) few (fun _ _ _ _ h => h.1) (fun _ => rfl) fun i y H6 e6 hi yl => by
        obtain ⟨o, ho⟩ : ∃ o, rs[i]? = some o := ⟨_, List.getElem?_eq_getElem hi⟩
        have hy := yl.2
        rw [List.getElem?_map, ho] at hy
        have ey : y = optV o := (Option.some.inj hy).symm
        subst ey
        rw [List.getD_eq_getElem?_getD, ho]
        cases o with
        | none => exact ev_if (b := true) (et_B (ev_is (ev_isN (ev_var rfl)) (congrArg V.bl (decide_eq_true rfl)))) (fun _ => ev_c) (fun h => nomatch h)
        | some n => exact ev_if (b := false) (et_B (ev_is (ev_isN (ev_var rfl)) (congrArg V.bl (decide_eq_false (fun h => nomatch h))))) (fun h => nomatch h) (fun _ H7 e7 Q7 q7 => ⟨_, rfl, (n : Int), rfl, log_small (big n (List.mem_of_getElem? ho)), q7 H7 (Ex.refl _)⟩)
    refine ⟨⟨_, rfl⟩, el H (Ex.refl _) _ fun D H1 hD e1 h1 => ⟨_, D, rs.map optT, rfl, rfl, .inl (SqL.of ?_), ?_, k H1 e1⟩⟩
    · rw [h1]
      congr 2
      apply List.ext_getElem
      · simp
      · intro i a b
        simp at a b
        simp [List.getD_eq_getElem?_getD, a]
    · have z := sum_le31 rs big
      rw [List.length_map]
      have : (Str.ofString ",").length = 1 := by decide
      rw [this]
      omega
theorem scRnm : FnScope ["text", "number"] ["text"] (defScope sRnm) := ⟨rfl, rfl, rfl, by decide +kernel, rfl, by decide +kernel, by decide +kernel⟩
theorem ok_rnm {fN : Addr} {fdN : FuncData} (F : FnP K "read_number" sRnm f fd) (T : NoS mg) (GN : FnOk P w K mg base CX0 1 fN fdN ["word"] spNin) (gN : mg "number_in" = some (.ref fN)) (kN : PySem.W.keepIn K (.ref fN) = true) (bN : Binds K fdN ["word"] []) : FnOk P w K mg base CX0 2 f fd ["text"] spRnm := by
  refine F.ok scRnm (fun vs H Q E h => ?_) (fun cdv A outer s H vs Q E hr h => ?_)
  · obtain ⟨w, n, rfl, _⟩ := h
    rfl
  · obtain ⟨w, n, rfl, wf, hn, k⟩ := h
    refine ⟨_, PSs.nox (pss_cons (ps_set (i := 1) scRnm.nd rfl (Or.inl rfl) (pe_ifExp (pt_val (pe_callB call_isi (by rfl) T.b.isi PyProof.Rows.boot_isinstance (pa_cons (pv 0) (pa_cons (pe_bltn (v := .ty "str") (by rfl) T.str (by decide +kernel) rfl) pa_nil)))) (pe_call GN (hr.mono (by decide)) rfl gN kN bN .nil pass0 (pa_cons (pv 0) pa_nil)) pe_non))
      (pss_cons (ps_if (pt_cmp (pc_isN (pv 1))) (pss_one ps_never) pss_nil)
      (pss_one (ps_ret (pv 1))))), ?_⟩
    have st0 : L2.start (["text", "number"] : List Str) [V.str w] = [some (V.str w), none] := rfl
    rw [st0]
    refine q_asg (v := .int (n : Int)) (ev_if (b := true) (et_B (ev_is (ev_isi (ev_var rfl) (kn_flat (v := .str w) True.intro)) rfl)) (fun _ H1 e1 Q1 q1 => ⟨_, rfl, w, rfl, wf, fun H2 e2 => ?_⟩) (fun h => nomatch h)) fun H1 e1 => ?_
    · rw [hn]
      exact q1 H2 e2
    dsimp only [List.set]
    refine q_when (b := false) (et_B (ev_is (ev_isN (ev_var rfl)) (congrArg V.bl (decide_eq_false (fun h => nomatch h))))) (fun h => nomatch h) (fun _ H2 e2 => ⟨_, rfl, k H2 (e1.trans e2)⟩)
theorem ok_rnmX {fN iT CT : Addr} {fdN fdIT : FuncData} (F : FnP K "read_number" sRnm f fd) (T : NoS mg) (GN : FnOk P w K mg base CX0 1 fN fdN ["word"] spNin) (gN : mg "number_in" = some (.ref fN)) (kN : PySem.W.keepIn K (.ref fN) = true) (bN : Binds K fdN ["word"] [])
    (TT : RaC K mg "InvalidText" CT iT) (GIT : FnOk P w K mg base CX0 1 iT fdIT ["self"] (spX0 CT "InvalidText")) (bIT : Binds K fdIT ["self"] []) : FnOk P w K mg base (L2.CX P w) 3 f fd ["text"] (spRnmX CT) := by
  refine F.ok scRnm (fun vs H Q E h => ?_) (fun cdv A outer s H vs Q E hr h => ?_)
  · obtain ⟨w, rfl, _⟩ := h
    rfl
  · obtain ⟨w, rfl, wf, hn, r⟩ := h
    refine ⟨_, (pss_cons (ps_set (i := 1) scRnm.nd rfl (Or.inl rfl) (pe_ifExp (pt_val (pe_callB call_isi (by rfl) T.b.isi PyProof.Rows.boot_isinstance (pa_cons (pv 0) (pa_cons (pe_bltn (v := .ty "str") (by rfl) T.str (by decide +kernel) rfl) pa_nil)))) (pe_call GN (hr.mono (by omega)) rfl gN kN bN .nil pass0 (pa_cons (pv 0) pa_nil)) pe_non))
      (pss_cons (ps_if (pt_cmp (pc_isN (pv 1))) (pss_one (ps_rz0 TT GIT (hr.mono (by omega)) bIT rfl (takes_of rfl rfl rfl rfl) rfl)) pss_nil)
      (pss_one (ps_ret (pv 1))))), ?_⟩
    have st0 : L2.start (["text", "number"] : List Str) [V.str w] = [some (V.str w), none] := rfl
    rw [st0]
    refine q_asg (v := .non) (ev_if (b := true) (et_B (ev_is (ev_isi (ev_var rfl) (kn_flat (v := .str w) True.intro)) rfl)) (fun _ H1 e1 Q1 q1 => ⟨_, rfl, w, rfl, wf, fun H2 e2 => ?_⟩) (fun h => nomatch h)) fun H1 e1 => ?_
    · rw [hn]
      exact q1 H2 e2
    dsimp only [List.set]
    refine q_when (b := true) (et_B (ev_is (ev_isN (ev_var rfl)) (congrArg V.bl (decide_eq_true rfl)))) (fun _ H2 e2 => ?_) (fun h => nomatch h)
    exact rz_0 fun dd H' e' h1 => r dd H' ((e1.trans e2).trans e') h1
theorem scRrp : FnScope ["text", "word"] ["text"] (defScope sRrp) := ⟨rfl, rfl, rfl, by decide +kernel, rfl, by decide +kernel, by decide +kernel⟩
theorem ok_rrp {fN : Addr} {fdN : FuncData} (F : FnP K "read_report" sRrp f fd) (T : NoS mg) (GN : FnOk P w K mg base CX0 2 fN fdN ["text"] spRnm) (gN : mg "read_number" = some (.ref fN)) (kN : PySem.W.keepIn K (.ref fN) = true) (bN : Binds K fdN ["text"] []) : FnOk P w K mg base CX0 3 f fd ["text"] (spRrp K) := by
  refine F.ok scRrp (fun vs H Q E h => ?_) (fun cdv A outer s H vs Q E hr h => ?_)
  · obtain ⟨t, rs, rfl, _⟩ := h
    rfl
  · obtain ⟨t, rs, rfl, tf, hrs, k⟩ := h
    refine ⟨_, PSs.nox (pss_cons (ps_if (pt_not (pt_val (pe_callB call_isi (by rfl) T.b.isi PyProof.Rows.boot_isinstance (pa_cons (pv 0) (pa_cons (pe_bltn (v := .ty "str") (by rfl) T.str (by decide +kernel) rfl) pa_nil))))) (pss_one ps_never) pss_nil)
      (pss_one (ps_ret (pe_callTy (call_tuple_ofK (K := K)) (by rfl) T.b.tup PyProof.Rows.boot_tuple (pa_cons (pe_lc (own := [("word", 1)]) (g := (gName 1)) (tt := tYes) (by rfl) scRrp.nd (pi_list (pe_split (pv 0) pe_str)) (blkOk_by (own := [("word", 1)]) (N := ["text", "word"]) (sc := defScope sRrp) (by decide +kernel)) (fun _ _ _ _ _ => pg_name (i := 1) scRrp.nd rfl (Or.inl rfl)) (fun _ _ _ _ _ => pts_nil) (fun _ _ _ _ _ => (pe_ifExp (pt_cmpR op_eq (pv 1) pe_str (nomark _)) pe_non (pe_call GN (hr.mono (by decide)) rfl gN kN bN .nil pass0 (pa_cons (pv 1) pa_nil))))) pa_nil))))), ?_⟩
    have st0 : L2.start (["text", "word"] : List Str) [V.str t] = [some (V.str t), none] := rfl
    rw [st0]
    have pl : (Txt.split t (Str.ofString ",")).length = rs.length := by
      have := congrArg List.length hrs
      simpa using this
    have p98 : rs.length ≤ 1000 := by
      have := PyProof.Rows.split_le t (Str.ofString ",")
      omega
    have pf : ∀ u ∈ Txt.split t (Str.ofString ","), u.length ≤ 1000 := fun u hu => by have := PyProof.Rows.part_short hu; omega
    refine q_when (b := false) (et_not (a := true) (et_B (ev_is (ev_isi (ev_var rfl) (kn_flat (v := .str t) True.intro)) rfl))) (fun h => nomatch h) (fun _ H1 e1 => ?_)
    have el : EvL (tLc (iList K (tM1 (fun x xs H Q => ∃ a b, x = V.str a ∧ xs = [V.str b] ∧ (b.length == 0) = false ∧ a.length + 2 ≤ sizeLine ∧ rNewStrs (Txt.split a b) H Q) (tVar 0) (tC (V.str (Str.ofString ","))))) (gName 1) tYes (tIf (tTest (tOp rEq (tVar 1) (tC (V.str (Str.ofString "-"))))) (tC V.non) (tCall spRnm [] E0 (tCons (tVar 1) tNil))) [1]) [some (V.str t), none] H1 ((List.range rs.length).map fun i => optV (rs.getD i none)) :=
      lc_valsK (yl := yPl ((Txt.split t (Str.ofString ",")).map V.str)) (n := rs.length) (fun i => optV (rs.getD i none)) (fun H6 e6 R r => ⟨_, rfl, ⟨_, rfl⟩, t, _, rfl, rfl, by decide, sz_of (by omega), fun p hp => ⟨p, rfl, ⟨_, SqL.of upd_same⟩, r (Itl K p) _ (Ex.new hp) (by have z := wk_l (K := K) (H0 := upd H6 p (.lst ((Txt.split t (Str.ofString ",")).map V.str))) (SqL.of upd_same); rw [List.length_map, pl] at z; exact z)⟩⟩) p98 (fun _ _ _ _ h => h.1) (fun _ => rfl) fun i y H6 e6 hi yl => by
        obtain ⟨u, hu⟩ : ∃ u, (Txt.split t (Str.ofString ","))[i]? = some u := ⟨_, List.getElem?_eq_getElem (by omega)⟩
        have hy := yl.2
        rw [List.getElem?_map, hu] at hy
        have ey : y = .str u := (Option.some.inj hy).symm
        subst ey
        obtain ⟨o, ho⟩ : ∃ o, rs[i]? = some o := ⟨_, List.getElem?_eq_getElem hi⟩
        have hp : partO u = some o := by
          have z := congrArg (fun l => l[i]?) hrs
          simp only [List.getElem?_map, hu, ho] at z
          exact Option.some.inj z
        rw [List.getD_eq_getElem?_getD, ho]
        unfold partO at hp
        by_cases hd : u = Str.ofString "-"
        · rw [if_pos hd] at hp
          cases hp
          exact ev_if (b := true) (et_test (ev_is (ev_op (ev_var rfl) ev_c (rv_eq rfl)) (congrArg V.bl (decide_eq_true (by rw [hd]))))) (fun _ => ev_c) (fun h => nomatch h)
        · rw [if_neg hd] at hp
          cases hn : numW u with
          | none => rw [hn] at hp; cases hp
          | some m =>
            rw [hn] at hp
            cases hp
            exact ev_if (b := false) (et_test (ev_is (ev_op (ev_var rfl) ev_c (rv_eq rfl)) (congrArg V.bl (decide_eq_false (fun z => hd (by injection z)))))) (fun h => nomatch h) (fun _ H7 e7 Q7 q7 => ⟨_, rfl, u, m, rfl, pf u (List.mem_of_getElem? hu), hn, fun H8 e8 => q7 H8 e8⟩)
    have ex : ((List.range rs.length).map fun i => optV (rs.getD i none)) = rs.map optV := by
      apply List.ext_getElem
      · simp
      · intro i a b
        simp at a b
        simp [List.getD_eq_getElem?_getD, a]
    rw [ex] at el
    exact tup_of5 el fun l H' hl e' h' => k l H' (fresh_back e1 hl) (e1.trans e') h'
end
end K52

-- base: law_k52_report_texts
/-! a report's text that is none -/
namespace K52
open PySem L2 Evl OxK
theorem tup_stop {K : PySem.W.Frag} {te : TE} {σ : L2.St} {H H1 : Hp} {Q : VK} (h : ∀ H0 Q, Ex H H0 → te σ H0 Q) (e : Ex H H1) : tCB (rTupOf K) (tCons te tNil) σ H1 Q := h H1 _ e
theorem not_str {T : String} (h : T ∈ six) (n : T ≠ "str") : isB T "str" = false := by
  simp only [six, List.mem_cons, List.mem_nil_iff, or_false] at h
  rcases h with rfl | rfl | rfl | rfl | rfl | rfl <;> first | rfl | exact absurd rfl n
section
variable {P : Program} {w : World} {K : PySem.W.Frag} {mg : Str → Option Value} {base : Heap} {f : Addr} {fd : FuncData}
theorem ok_rrpX {fN iT CT : Addr} {fdN fdIT : FuncData} (F : FnP K "read_report" sRrp f fd) (T : NoS mg) (GN : FnOk P w K mg base (L2.CX P w) 3 fN fdN ["text"] (spRnmE CT)) (gN : mg "read_number" = some (.ref fN)) (kN : PySem.W.keepIn K (.ref fN) = true) (bN : Binds K fdN ["text"] [])
    (TT : RaC K mg "InvalidText" CT iT) (GIT : FnOk P w K mg base CX0 1 iT fdIT ["self"] (spX0 CT "InvalidText")) (bIT : Binds K fdIT ["self"] []) : FnOk P w K mg base (L2.CX P w) 4 f fd ["text"] (spRrpX K CT) := by
  refine F.ok scRrp (fun vs H Q E h => ?_) (fun cdv A outer s H vs Q E hr h => ?_)
  · obtain ⟨v, rfl, _⟩ := h
    rfl
  · obtain ⟨v, rfl, r, why⟩ := h
    refine ⟨_, (pss_cons (ps_if (pt_not (pt_val (pe_callB call_isi (by rfl) T.b.isi PyProof.Rows.boot_isinstance (pa_cons (pv 0) (pa_cons (pe_bltn (v := .ty "str") (by rfl) T.str (by decide +kernel) rfl) pa_nil))))) (pss_one (ps_rz0 TT GIT (hr.mono (by omega)) bIT rfl (takes_of rfl rfl rfl rfl) rfl)) pss_nil)
      (pss_one (ps_ret (pe_callTy (call_tuple_ofK (K := K)) (by rfl) T.b.tup PyProof.Rows.boot_tuple (pa_cons (pe_lcX (own := [("word", 1)]) (g := (gName 1)) (tt := tYes) (U := E) rfl rfl (takes_of rfl rfl rfl rfl) (fun _ _ _ _ h => h) (by rfl) scRrp.nd (pi_list (pe_split (pv 0) pe_str)) (blkOk_by (own := [("word", 1)]) (N := ["text", "word"]) (sc := defScope sRrp) (by decide +kernel)) (fun _ _ _ _ _ => pg_name (i := 1) scRrp.nd rfl (Or.inl rfl)) (fun _ _ _ _ _ => pts_nil) (fun _ _ _ _ _ => (pe_ifExp (pt_cmpR op_eq (pv 1) pe_str (nomark _)) pe_non (pe_call GN (hr.mono (by omega)) rfl gN kN bN .nil (passes_blk (fun _ _ _ h => h)) (pa_cons (pv 1) pa_nil))))) pa_nil))))), ?_⟩
    have st0 : L2.start (["text", "word"] : List Str) [v] = [some v, none] := rfl
    rw [st0]
    rcases why with ⟨T0, kn, nT⟩ | ⟨t, i, u, rfl, tf, hu, hp, before⟩
    · refine q_when (b := true) (et_not (a := false) (et_B (ev_is (ev_isi (ev_var rfl) kn) (congrArg V.bl (not_str kn.six nT))))) (fun _ H1 e1 => ?_) (fun h => nomatch h)
      exact rz_0 fun dd H' e' h1 => r dd H' (e1.trans e') h1
    refine q_when (b := false) (et_not (a := true) (et_B (ev_is (ev_isi (ev_var rfl) (kn_flat (v := .str t) True.intro)) rfl))) (fun h => nomatch h) (fun _ H1 e1 => ?_)
    have pf : ∀ z ∈ Txt.split t (Str.ofString ","), z.length ≤ 1000 := fun z hz => by have := PyProof.Rows.part_short hz; omega
    have p98 : (Txt.split t (Str.ofString ",")).length ≤ 1000 := by
      have := PyProof.Rows.split_le t (Str.ofString ",")
      omega
    have hi : i < (Txt.split t (Str.ofString ",")).length := (List.getElem?_eq_some_iff.mp hu).1
    have el := lc_stops (te := tIf (tTest (tOp rEq (tVar 1) (tC (V.str (Str.ofString "-"))))) (tC V.non) (tCall (spRnmE CT) [] E (tCons (tVar 1) tNil))) (yl := yPl ((Txt.split t (Str.ofString ",")).map V.str)) (n := (Txt.split t (Str.ofString ",")).length) (σ := [some (V.str t), none]) (H := H1) (j := 1) (vs := [1])
      (wi := iList K (tM1 (fun x xs H Q => ∃ a b, x = V.str a ∧ xs = [V.str b] ∧ (b.length == 0) = false ∧ a.length + 2 ≤ sizeLine ∧ rNewStrs (Txt.split a b) H Q) (tVar 0) (tC (V.str (Str.ofString ",")))))
      (fun j => optV (((Txt.split t (Str.ofString ","))[j]?.bind partO).getD none)) i hi
      (fun H6 e6 R r => ⟨_, rfl, ⟨_, rfl⟩, t, _, rfl, rfl, by decide, sz_of (by omega), fun p hp => ⟨p, rfl, ⟨_, SqL.of upd_same⟩, r (Itl K p) _ (Ex.new hp) (by have z := wk_l (K := K) (H0 := upd H6 p (.lst ((Txt.split t (Str.ofString ",")).map V.str))) (SqL.of upd_same); rw [List.length_map] at z; exact z)⟩⟩)
      p98 (fun _ _ _ _ h => h.1) (fun _ => rfl) (fun j y H6 e6 hj yl => ?_) (fun y H6 e6 yl Q6 => ?_)
    · exact tup_stop el (Ex.refl _)
    · obtain ⟨z, hz⟩ : ∃ z, (Txt.split t (Str.ofString ","))[j]? = some z := ⟨_, List.getElem?_eq_getElem (by omega)⟩
      have hy := yl.2
      rw [List.getElem?_map, hz] at hy
      have ey : y = .str z := (Option.some.inj hy).symm
      subst ey
      have some1 := before j z hj hz
      rw [hz]
      show Ev _ _ _ (optV ((partO z).getD none))
      unfold partO at some1 ⊢
      by_cases hd : z = Str.ofString "-"
      · rw [if_pos hd]
        exact ev_if (b := true) (et_test (ev_is (ev_op (ev_var rfl) ev_c (rv_eq rfl)) (congrArg V.bl (decide_eq_true (by rw [hd]))))) (fun _ => ev_c) (fun h => nomatch h)
      · rw [if_neg hd] at some1 ⊢
        cases hn : numW z with
        | none => rw [hn] at some1; cases some1
        | some m =>
          exact ev_if (b := false) (et_test (ev_is (ev_op (ev_var rfl) ev_c (rv_eq rfl)) (congrArg V.bl (decide_eq_false (fun q => hd (by injection q)))))) (fun h => nomatch h) (fun _ H7 e7 Q7 q7 => ⟨_, rfl, .inl ⟨z, m, rfl, pf z (List.mem_of_getElem? hz), hn, fun H8 e8 => q7 H8 e8⟩⟩)
    · have hy := yl.2
      rw [List.getElem?_map, hu] at hy
      have ey : y = .str u := (Option.some.inj hy).symm
      subst ey
      have hd : u ≠ Str.ofString "-" := fun q => by
        unfold partO at hp
        rw [if_pos q] at hp; cases hp
      have hn : numW u = none := by
        unfold partO at hp
        rw [if_neg hd] at hp
        cases q : numW u with
        | none => rfl
        | some m => rw [q] at hp; cases hp
      have et := et_test (σ := [some (V.str t), some (V.str u)]) (H := H6) (ev_is (ev_op (ev_var (i := 1) rfl) ev_c (rv_eq rfl)) (congrArg V.bl (decide_eq_false (fun q : V.str u = V.str (Str.ofString "-") => hd (by injection q)))))
      refine et H6 (Ex.refl _) _ fun H7 e7 => ?_
      exact iteF ⟨_, rfl, .inr ⟨u, rfl, pf u (List.mem_of_getElem? hu), hn, fun dd H' e' h1 => r dd H' (((e1.trans e6).trans e7).trans e') h1⟩⟩
end
end K52

-- base: law_k52_report_texts
/-! what the law holds for digits -/
namespace K52
open PySem L2 Evl OxK
def spDgt : Sp := fun vs H Q _ => ∃ w : Str, vs = [.str w] ∧ w.length ≤ 1000 ∧ ∀ H', Ex H H' → Q (.bl (isNumW w)) H'
section
variable {P : Program} {w : World} {K : PySem.W.Frag} {mg : Str → Option Value} {base : Heap} {f : Addr} {fd : FuncData}
theorem scDgt : FnScope ["_law_text_z", "_law_sign"] ["_law_text_z"] (defScope sDgt) := ⟨rfl, rfl, rfl, by decide +kernel, rfl, by decide +kernel, by decide +kernel⟩
theorem ok_dgt (F : FnP K "_law_is_digits" sDgt f fd) (T : NoS mg) : FnOk P w K mg base CX0 1 f fd ["_law_text_z"] spDgt := by
  refine F.ok scDgt (fun vs H Q E h => ?_) (fun cdv A outer s H vs Q E hr h => ?_)
  · obtain ⟨w, rfl, _⟩ := h
    rfl
  · obtain ⟨w, rfl, wf, k⟩ := h
    refine ⟨_, PSs.nox (pss_one (ps_ret (pe_and (pe_chain op_le op_le pe_int (pe_callB call_len_str (by rfl) T.len PySem.boot_len (pa_cons (pv 0) pa_nil)) pe_int) (pe_and (pe_callB (cr_all rfl) (by rfl) T.all PyProof.Rows.boot_all (pa_cons (pe_lc (own := [("_law_sign", 1)]) (g := (gName 1)) (tt := tYes) (by rfl) scDgt.nd (pi_str (pv 0)) (blkOk_by (own := [("_law_sign", 1)]) (N := ["_law_text_z", "_law_sign"]) (sc := defScope sDgt) (by decide +kernel)) (fun _ _ _ _ _ => pg_name (i := 1) scDgt.nd rfl (Or.inl rfl)) (fun _ _ _ _ _ => pts_nil) (fun _ _ _ _ _ => (pe_cmpR op_in_sign (pv 1) pe_str (by with_unfolding_all rfl)))) pa_nil)) (pe_one (pe_or (pe_cmpR op_eq (pv 0) pe_str (nomark _)) (pe_one (pe_cmpR op_ne (pe_ix ix_str (pv 0) pe_int (fun _ _ => rfl)) pe_str (nomark _))))))))), ?_⟩
    have st0 : L2.start (["_law_text_z", "_law_sign"] : List Str) [V.str w] = [some (V.str w), none] := rfl
    rw [st0]
    have wl : w.length = (sg w).length := by simp [Str.length, sg]
    have allE : w.length ≤ 31 → Ev (tCB (rAll K) (tCons (tLc (iStr (tVar 0)) (gName 1) tYes (tOp (fun x y H Q => ∃ c z, x = V.str ⟨#[c]⟩ ∧ y = V.str z ∧ Q (V.bl (decide (c ∈ z.cps.toList))) H) (tVar 1) (tC (V.str (Str.ofString "0123456789")))) [1]) tNil)) [some (V.str w), none] H (.bl ((sg w).all fun c => decide (48 ≤ c) && decide (c ≤ 57))) := fun h31 => by
      have z := ev_allF (K := K) (n := (sg w).length) (f := fun i => decide (48 ≤ (sg w).getD i 0) && decide ((sg w).getD i 0 ≤ 57)) (te := tLc (iStr (tVar 0)) (gName 1) tYes (tOp (fun x y H Q => ∃ c z, x = V.str ⟨#[c]⟩ ∧ y = V.str z ∧ Q (V.bl (decide (c ∈ z.cps.toList))) H) (tVar 1) (tC (V.str (Str.ofString "0123456789")))) [1]) (σ := [some (V.str w), none]) (H := H)
        (lc_vals (yl := fun i y H1 H2 => H2 = H1 ∧ ∃ c, (sg w)[i]? = some c ∧ y = .str ⟨#[c]⟩) (n := (sg w).length) (fun i => V.bl (decide (48 ≤ (sg w).getD i 0) && decide ((sg w).getD i 0 ≤ 57))) (fun H6 e6 R r => ⟨_, rfl, w, rfl, r (Its w) H6 (Ex.refl H6) wk_strJ⟩) (by omega) (fun _ _ _ _ h => h.1) (fun _ => rfl) fun i2 y2 H6 e6 hi yl => by
          obtain ⟨_, c, hc, rfl⟩ := yl
          rw [List.getD_eq_getElem?_getD, hc]
          refine ev_is (v := V.bl (decide (c ∈ (Str.ofString "0123456789").cps.toList))) (fun H7 e7 Q7 q7 => ⟨_, rfl, c, _, rfl, rfl, q7 H7 (Ex.refl _)⟩) (congrArg V.bl ?_)
          rw [show (Str.ofString "0123456789").cps.toList = [48, 49, 50, 51, 52, 53, 54, 55, 56, 57] from by decide +kernel, Bool.eq_iff_iff]
          simp only [decide_eq_true_iff, Bool.and_eq_true, List.mem_cons, List.mem_nil_iff, or_false, Option.getD_some]
          omega)
      refine ev_is z (congrArg V.bl ?_)
      rw [Bool.eq_iff_iff, List.all_eq_true, List.all_eq_true]
      constructor
      · intro h c hc
        obtain ⟨i, hi, rfl⟩ := List.mem_iff_getElem.mp hc
        have := h i (List.mem_range.mpr hi)
        rw [List.getD_eq_getElem?_getD, List.getElem?_eq_getElem hi] at this
        exact this
      · intro h i hi
        have hi := List.mem_range.mp hi
        rw [List.getD_eq_getElem?_getD, List.getElem?_eq_getElem hi]
        exact h _ (List.getElem_mem hi)
    have chV : Ev (tChain (rI0 fun i j => V.bl (decide (i ≤ j))) (rI0 fun i j => V.bl (decide (i ≤ j))) (tC (V.int 1)) (tCB (fun xs H Q => ∃ z, xs = [V.str z] ∧ z.length ≤ sizeLine ∧ Q (V.int ↑z.length) H) (tCons (tVar 0) tNil)) (tC (V.int 31))) [some (V.str w), none] H (.bl (decide (1 ≤ w.length) && decide (w.length ≤ 31))) := fun H2 e2 Q2 q2 => by
      refine ⟨_, rfl, w, rfl, sz_of (by omega), _, _, rfl, rfl, _, rfl, ?_⟩
      by_cases h1 : 1 ≤ w.length
      · rw [decide_eq_true (show (1 : Int) ≤ (w.length : Int) by omega)]
        refine iteT ⟨_, _, rfl, rfl, ?_⟩
        rw [decide_eq_true h1, Bool.true_and] at q2
        have z : decide ((w.length : Int) ≤ 31) = decide (w.length ≤ 31) := by rw [decide_eq_decide]; omega
        show Q2 (V.bl (decide ((w.length : Int) ≤ 31))) H2
        rw [z]
        exact q2 H2 (Ex.refl _)
      · rw [decide_eq_false (show ¬ (1 : Int) ≤ (w.length : Int) by omega)]
        rw [decide_eq_false h1, Bool.false_and] at q2
        exact iteF (q2 H2 (Ex.refl _))
    have fin := ev_andV chV (fun h1 => ev_andV (allE (of_decide_eq_true (Bool.and_eq_true_iff.mp h1).2)) (fun _ => ev_orV (ev_op (ev_var (i := 0) rfl) (ev_c (v := V.str (Str.ofString "0"))) (rv_eq rfl)) (fun _ => ev_op (ev_op (r := rIxS) (x := V.str w) (y := V.int 0) (z := V.str ⟨#[(sg w).headD 0]⟩) (ev_var (i := 0) rfl) ev_c (fun H2 _ Q2 q2 => ⟨w, 0, (sg w).headD 0, rfl, rfl, sz_of (by omega), (by
      have l1 := of_decide_eq_true (Bool.and_eq_true_iff.mp h1).1
      show atI (sg w) ((0 : Nat) : Int) = some _
      refine atI_nat ?_
      cases z : sg w with
      | nil => rw [z] at wl; simp at wl; omega
      | cons c r => rfl), q2 H2 (Ex.refl _)⟩)) (ev_c (v := V.str (Str.ofString "0"))) (rv_ne rfl))))
    refine q_retV ((ev_is fin (congrArg V.bl ?_)) H (Ex.refl _) _ fun H1 e1 => k H1 e1)
    unfold isNumW
    cases h1 : (decide (1 ≤ w.length) && decide (w.length ≤ 31)) with
    | false => rfl
    | true =>
      cases h2 : ((sg w).all fun c => decide (48 ≤ c) && decide (c ≤ 57)) with
      | false => rfl
      | true =>
        have l1 := of_decide_eq_true (Bool.and_eq_true_iff.mp h1).1
        obtain ⟨c0, r0, hc⟩ : ∃ c0 r0, sg w = c0 :: r0 := by
          cases z : sg w with
          | nil => rw [z] at wl; simp at wl; omega
          | cons c r => exact ⟨c, r, rfl⟩
        have e1 : decide (V.str w = V.str (Str.ofString "0")) = (w == Str.ofString "0") := by
          rw [Bool.eq_iff_iff, decide_eq_true_iff, beq_iff_eq]
          exact ⟨fun h => by injection h, fun h => by rw [h]⟩
        have e2 : decide (V.str (⟨#[(sg w).headD 0]⟩ : Str) = V.str (Str.ofString "0")) = ((sg w).head? == some 48) := by
          rw [hc, Bool.eq_iff_iff, decide_eq_true_iff, beq_iff_eq]
          constructor
          · intro h
            injection h with h
            have h : [c0] = [48] := (congrArg (fun s : Str => s.cps.toList) h).trans (by decide +kernel)
            injection h with h
            rw [h]
            rfl
          · intro h
            have h : c0 = 48 := Option.some.inj h
            rw [h]
            rfl
        rw [e1, e2]
        cases ((sg w).head? == some 48) <;> cases (w == Str.ofString "0") <;> rfl
end
end K52

/-! a text times a number -/
namespace L2
open PySem PySem.Spec PyProof PyProof.Rows
def rMulS : R2 := fun x y H Q => ∃ (z : Str) (n : Nat), x = .str z ∧ y = .int (n : Int) ∧ z.length ≤ 1000 ∧ n ≤ 1000 ∧ Q (.str (Txt.mul z n)) H
theorem op_mulS {X : Cx} : OpR X (binaryOp .Mult) rMulS := by
  intro pins s σ H x y v u Q I rx ry h
  obtain ⟨z, n, rfl, rfl, hz, hn, q⟩ := h
  obtain ⟨t, rfl⟩ := rx
  obtain ⟨t', rfl⟩ := ry
  have hb : z.length * n ≤ 1000000 := Nat.mul_le_mul hz hn
  refine SB.mul ⟨?_, fun h1 h2 => ?_, fun h1 h2 => ?_⟩ (fun t' tk => ⟨.str (Txt.mul z n), H, I.tok _, ⟨_, rfl⟩, q⟩)
  · have a : ¬ ((n : Int) < -(2 ^ 63 : Int)) := by omega
    have b : ¬ ((n : Int) ≥ 2 ^ 63) := by omega
    rw [decide_eq_false a, decide_eq_false b]
    rfl
  · have h3 : (z.length : Int) * (n : Int) ≤ 1000000 := by
      have h := Int.ofNat_le.mpr hb
      rw [Int.natCast_mul] at h
      exact h
    have h4 : (z.length : Int) ≤ 9223372036854775807 / (n : Int) := Int.le_ediv_of_mul_le (by omega) (by omega)
    have h5 : (2 ^ 63 - 1 : Int) = 9223372036854775807 := by decide
    rw [h5]
    omega
  · show decide (z.length * ((n : Int)).toNat > sizeLine) = false
    rw [Int.toNat_natCast]
    exact decide_eq_false (by show ¬ (z.length * n > 2 ^ 24); omega)
theorem foldl_cps (a : Array Nat) : ∀ (k : Nat) (acc : Array Nat), ((List.replicate k a).foldl (· ++ ·) acc).toList = acc.toList ++ (List.replicate k a.toList).flatten
  | 0, acc => by simp
  | k + 1, acc => by
    rw [List.replicate_succ, List.foldl_cons, foldl_cps a k]
    simp [List.replicate_succ]
theorem sg_mulS (z : Str) (n : Nat) : (Txt.mul z (n : Int)).cps.toList = (List.replicate n z.cps.toList).flatten := by
  unfold Txt.mul
  by_cases h1 : (n : Int) < 1
  · rw [if_pos h1]
    have e : n = 0 := by omega
    subst e
    rfl
  · rw [if_neg h1]
    by_cases h2 : ((n : Int) == 1 || z.length == 0) = true
    · rw [if_pos h2]
      rcases Bool.or_eq_true_iff.mp h2 with h3 | h3
      · have : n = 1 := by have := eq_of_beq h3; omega
        subst this
        simp
      · have h4 : z.cps.toList = [] := by
          have h5 : z.length = 0 := eq_of_beq h3
          have : z.cps.size = 0 := h5
          exact List.length_eq_zero_iff.mp (by simpa using this)
        rw [h4]
        simp
    · rw [if_neg h2, Int.toNat_natCast]
      show ((List.replicate n z.cps).foldl (· ++ ·) #[]).toList = _
      rw [foldl_cps]
      simp
end L2

/-! a method called with keywords -/
namespace L2
open PySem PySem.Spec PyProof.Rows
/-- o.m(e, .., k=..): n counts self and the positional arguments -/
def tMethN (C : Addr) (m : Str) (n k : Nat) (sp : Sp) (gV : List V → List V → List V) (E : XK) (ta : TE) (t tk : TA) : TE := fun σ H Q => ta σ H fun x H1 => ∃ a dx fs, x = .ref a ∧ H1 a = some (.ins C dx fs) ∧ fs.lookup m = none ∧
  t σ H1 fun vs H2 => tk σ H2 fun zs H3 => (x :: vs).length = n ∧ zs.length = k ∧ sp (gV (x :: vs) zs) H3 Q E
section
variable {X : Cx} {CX : CXT} {k n : Nat} {f C : Addr} {fd : FuncData} {ps ks : List Str} {sp : Sp} {E : XK} {m : Str} {apos pos : Pos} {o e : Expr} {es : List Expr} {kws : List Keyword} {ta : TE} {t tk : TA} {g : List Value → List Value → List Value} {gV : List V → List V → List V}
theorem pe_methN {pl : Sem Bool} (he : PE X o ta) (c : Cls X.K C) (hm : Meth X.K C m f) (F : FnOk X.prog X.w X.K X.mg X.base CX k f fd ps sp) (hr : Room k X.A) (hb : KBn X.K fd ps n ks g gV) (hx : Passes CX X E) (ha : PA X (e :: es) t) (hkw : PK X kws tk)
    (hall : (backToKw pos (keywordEach kws X.env)).all (·.1.isSome) = true := by rfl) (hks : (backToKw pos (keywordEach kws X.env)).filterMap (·.1) = ks := by rfl)
    (hst : starEach (e :: es) X.env = (false, eval e X.env) :: starEach es X.env := by rfl) (hpl : ((backTo pos (starEach (e :: es) X.env)).any (·.1) || (backToKw pos (keywordEach kws X.env)).any (·.1.isNone)) = false := by rfl)
    (ht : eval (.Call (.Attribute o m apos) (e :: es) kws pos) X.env = (do
      let ov ← eval o X.env
      standAt apos.atName
      let (f, first) ← holding [ov] (getMethod ov m pl)
      callWith pos f first (backTo pos (starEach (e :: es) X.env)) (backToKw pos (keywordEach kws X.env))) := by rfl) :
    PE X (.Call (.Attribute o m apos) (e :: es) kws pos) (tMethN C m n ks.length sp gV E ta t tk) := by
  refine ⟨fun pins s σ H Q I h => ?_⟩
  refine PySem.W.methodCall_KW (pl := pl) (thn (he.run pins s σ H _ I h) fun u s1 ⟨x, H1, I1, rx, a, dx, fs, ex, ea, l, q⟩ => ?_) ht
  subst ex
  obtain rfl : u = Value.ref a := rx
  refine getmeth_ok I1 ea c hm l ?_
  refine PySem.W.callWith_KW (first := [.ref a]) (h₀ := X.base) I.ok.mod.kin hm.kp hall (thn (ha.run pos pins s1 σ H1 _ I1 q) fun us s2 ⟨vs, H2, I2, r, q2⟩ => ?_) hpl hst
  refine thn (hkw.run pos pins s2 σ H2 _ I2 q2) fun ws s3 ⟨zs, H3, I3, rz, l1, l2, q3⟩ => ⟨I3.kIn, ?_⟩
  rw [hks]
  exact run_fnN (us := .ref a :: us) (vs := .ref a :: vs) F hr hb hx I3 (.cons rfl r) rz l1 l2 q3
theorem pe_methN0 {pl : Sem Bool} (he : PE X o ta) (c : Cls X.K C) (hm : Meth X.K C m f) (F : FnOk X.prog X.w X.K X.mg X.base CX k f fd ps sp) (hr : Room k X.A) (hb : KBn X.K fd ps n ks g gV) (hx : Passes CX X E) (hkw : PK X kws tk)
    (hall : (backToKw pos (keywordEach kws X.env)).all (·.1.isSome) = true := by rfl) (hks : (backToKw pos (keywordEach kws X.env)).filterMap (·.1) = ks := by rfl)
    (hpl : ((backTo pos (starEach [] X.env)).any (·.1) || (backToKw pos (keywordEach kws X.env)).any (·.1.isNone)) = false := by rfl)
    (ht : eval (.Call (.Attribute o m apos) [] kws pos) X.env = (do
      let ov ← eval o X.env
      standAt apos.atName
      let (f, first) ← holding [ov] (getMethod ov m pl)
      callWith pos f first (backTo pos (starEach [] X.env)) (backToKw pos (keywordEach kws X.env))) := by rfl) :
    PE X (.Call (.Attribute o m apos) [] kws pos) (tMethN C m n ks.length sp gV E ta tNil tk) := by
  refine ⟨fun pins s σ H Q I h => ?_⟩
  refine PySem.W.methodCall_KW (pl := pl) (thn (he.run pins s σ H _ I h) fun u s1 ⟨x, H1, I1, rx, a, dx, fs, ex, ea, l, q⟩ => ?_) ht
  subst ex
  obtain rfl : u = Value.ref a := rx
  refine getmeth_ok I1 ea c hm l ?_
  refine PySem.W.callWith_KW0 (first := [.ref a]) (h₀ := X.base) I.ok.mod.kin hm.kp hall ?_ hpl
  refine thn (hkw.run pos pins s1 σ H1 _ I1 q) fun ws s3 ⟨zs, H3, I3, rz, l1, l2, q3⟩ => ⟨I3.kIn, ?_⟩
  rw [hks]
  exact run_fnN (us := [.ref a]) (vs := [.ref a]) F hr hb hx I3 (.cons rfl .nil) rz l1 l2 q3
end
end L2

/-! zip over any number of lists: the next item, whatever became of the tuple handed out -/
namespace PySem
open PySem.W
def ZOf (h : Heap) (z TI TO : Addr) (f0 : Value) (f : Bool) : Prop := h.get? z = some { cls := .type "zip", dict := none, data := .fields #[f0, .bool f, .bool false, .ref TI, .ref TO], slots := #[] }
def TupL (h : Heap) (T : Addr) (vs : List Value) : Prop := h.get? T = some { cls := .type "tuple", data := .seq vs.toArray }
/-- refs to b, b + 1, .. -/
def refsAt (b : Nat) : Nat → List Value
  | 0 => []
  | n + 1 => .ref b :: refsAt (b + 1) n
theorem refsAt_len : ∀ (n b : Nat), (refsAt b n).length = n
  | 0, _ => rfl
  | n + 1, b => congrArg Nat.succ (refsAt_len n (b + 1))
/-- the sides: from the j-th on at k, those before at k + 1 -/
def Sds (b : Nat) (ls : List (Addr × Array Value)) (k j : Nat) (h : Heap) : Prop := ∀ (m : Nat) (p : Addr × Array Value), ls[m]? = some p → h.IsListIter (b + m) p.1 (if m < j then k + 1 else k) ∧ h.IsList p.1 p.2
structure Low (b : Nat) (ls : List (Addr × Array Value)) : Prop where
  low : ∀ p ∈ ls, (p.1 : Nat) < b
theorem Sds.but {b : Nat} {ls : List (Addr × Array Value)} {k j : Nat} {h h' : Heap} (S : Sds b ls k j h) (L : Low b ls) {c : Nat} (hc : b + ls.length ≤ c) (hk : ∀ (d : Addr) (o : Obj), (d : Nat) ≠ c → h.get? d = some o → h'.get? d = some o) : Sds b ls k j h' := fun m p hm => by
  obtain ⟨h1, h2⟩ := S m p hm
  have ml := (List.getElem?_eq_some_iff.mp hm).1
  have lo := L.low p (List.mem_of_getElem? hm)
  exact ⟨h1.at fun o e => hk (b + m) o (fun q => absurd q (show b + m ≠ c by omega)) e, h2.at fun o e => hk p.1 o (fun q => absurd (q ▸ lo) (show ¬ c < b by omega)) e⟩
theorem Sds.keep {b : Nat} {ls : List (Addr × Array Value)} {k j : Nat} {h h' : Heap} (S : Sds b ls k j h) (hk : ∀ (d : Addr) (o : Obj), h.get? d = some o → h'.get? d = some o) : Sds b ls k j h' := fun m p hm => by
  obtain ⟨h1, h2⟩ := S m p hm
  exact ⟨h1.at fun o e => hk _ o e, h2.at fun o e => hk _ o e⟩
theorem Sds.next {b : Nat} {ls : List (Addr × Array Value)} {k j : Nat} {h h' : Heap} {p : Addr × Array Value} (S : Sds b ls k j h) (L : Low b ls) (hj : ls[j]? = some p) (hit : h'.IsListIter (b + j) p.1 (k + 1)) (hs : Heap.SameBut (b + j) h h') : Sds b ls k (j + 1) h' := fun m q hm => by
  obtain ⟨h1, h2⟩ := S m q hm
  have lo := L.low q (List.mem_of_getElem? hm)
  have nl : (q.1 : Nat) ≠ b + j := Nat.ne_of_lt (Nat.lt_of_lt_of_le lo (Nat.le_add_right b j))
  refine ⟨?_, h2.extBut hs.extBut nl⟩
  by_cases e : m = j
  · subst e
    rw [hj] at hm
    cases hm
    rw [if_pos (Nat.lt_succ_self m)]
    exact hit
  · have ne : b + m ≠ b + j := by omega
    have z := h1.extBut hs.extBut ne
    by_cases lt : m < j
    · rw [if_pos (by omega)]
      rw [if_pos lt] at z
      exact z
    · rw [if_neg (by omega)]
      rw [if_neg lt] at z
      exact z
theorem Sds.turn {b : Nat} {ls : List (Addr × Array Value)} {k : Nat} {h : Heap} (S : Sds b ls k ls.length h) : Sds b ls (k + 1) 0 h := fun m p hm => by
  have z := S m p hm
  rw [if_pos (List.getElem?_eq_some_iff.mp hm).1] at z
  rw [if_neg (Nat.not_lt_zero m)]
  exact z
section
variable {prog : Program} {w : World} {A : Around} {E : Value → Shared → Prop} {s : Shared}
theorem wpAny_alive {a : Addr} {Q : Option Obj → Shared → Prop} (h : Q (s.heap.get? a) s) : wpAny (model prog w) A (loadIfAlive a) Q E s := fun _ _ _ => h
/-- the tuple handed out still stands, or not -/
theorem wpAny_owned {z TI TO : Addr} {f0 : Value} {f : Bool} {Q : Bool → Shared → Prop} (h0 : f0 = .none ∨ ∃ T : Nat, f0 = rawInt T) (hz : ZOf s.heap z TI TO f0 f)
    (h : ∀ r f' h', ZOf h' z TI TO f0 f' → Heap.SameBut z s.heap h' → Q r { s with heap := h' }) : wpAny (model prog w) A (Builtin.SmallTypes.ownedTupleIsFree (.ref z)) Q E s := by
  unfold Builtin.SmallTypes.ownedTupleIsFree
  refine wpAny_bind (wpAny_field hz rfl (x := f0) rfl ?_)
  rcases h0 with rfl | ⟨T, rfl⟩
  · exact wpAny_pure (h true f s.heap hz (Heap.SameBut.refl _ _))
  · show wpAny _ _ (loadIfAlive ((T : Int).toNat) >>= _) _ _ _
    rw [Int.toNat_natCast]
    refine wpAny_bind (wpAny_alive ?_)
    cases hT : s.heap.get? T with
    | none =>
      simp only [Option.isNone_none, if_true]
      exact wpAny_pure (h true f s.heap hz (Heap.SameBut.refl _ _))
    | some o =>
      simp only [Option.isNone_some, Bool.false_eq_true, if_false]
      refine wpAny_bind (wpAny_field hz rfl (x := .bool f) rfl ?_)
      cases f with
      | true =>
        rw [if_neg (show ¬ ((Value.bool true != Value.bool true) = true) from Bool.false_ne_true)]
        exact wpAny_pure (h false true s.heap hz (Heap.SameBut.refl _ _))
      | false =>
        rw [if_pos (show (Value.bool false != Value.bool true) = true from rfl)]
        exact wpAny_bind (wpAny_setField_rec hz (by simp) fun h₁ hz₁ hs₁ => wpAny_pure (h false true h₁ hz₁ hs₁))
theorem away {b n c j : Nat} (hc : c < b ∨ b + n + 3 ≤ c) (hj : j < n + 3) : c ≠ b + j := by omega
/-- what the sides hold at k -/
def valsAt (ls : List (Addr × Array Value)) (k : Nat) : List Value := ls.map fun p => p.2.getD k .none
/-- the next tuple -/
theorem zipN_next {b k : Nat} {ls : List (Addr × Array Value)} {z TI TO : Addr} {f0 : Value} {f : Bool} {old : List Value} {Q : Value → Shared → Prop} (h0 : f0 = .none ∨ ∃ T : Nat, f0 = rawInt T) (L : Low b ls) (n1 : 0 < ls.length) (n100 : ls.length ≤ 100) (bs : b + ls.length + 3 ≤ s.heap.objs.size)
    (hTIa : TI = b + ls.length) (hTOa : TO = b + ls.length + 1) (hza : z = b + ls.length + 2)
    (hz : ZOf s.heap z TI TO f0 f) (hTI : TupL s.heap TI (refsAt b ls.length)) (hTO : TupL s.heap TO old) (ol : old.length = ls.length) (S : Sds b ls k 0 s.heap) (hk : ∀ p ∈ ls, k < p.2.size)
    (hQ : ∀ T h' f0' f' old' tk, (f0' = .none ∨ ∃ T : Nat, f0' = rawInt T) → ZOf h' z TI TO f0' f' → TupL h' TI (refsAt b ls.length) → TupL h' TO old' → old'.length = ls.length → Sds b ls (k + 1) 0 h' → T = s.heap.objs.size → TupL h' T (valsAt ls k) → h'.objs.size = s.heap.objs.size + 1 →
      (∀ (c : Addr) (o : Obj), (c : Nat) < b ∨ b + ls.length + 3 ≤ (c : Nat) → s.heap.get? c = some o → h'.get? c = some o) → Q (.ref T) { s with heap := h', toks := tk }) :
    wpAny (model prog w) A (Builtin.«zip.__next__» ⟨[.ref z], []⟩) (fun fin s' => ∃ v, fin = .done (.ret v) ∧ Q v s') E s := by
  show wpAny _ _ (field (.ref z) 2 >>= _) _ _ _
  refine wpAny_bind (wpAny_field hz rfl (x := .bool false) rfl ?_)
  show wpAny _ _ (field (.ref z) 3 >>= _) _ _ _
  refine wpAny_bind (wpAny_field hz rfl (x := .ref TI) rfl ?_)
  refine wpAny_bind (wpAny_seqItems hTI rfl ?_)
  have ne0 : (refsAt b ls.length).toArray.isEmpty = false := by
    obtain ⟨m, hm⟩ : ∃ m, ls.length = m + 1 := ⟨ls.length - 1, by omega⟩
    rw [hm]
    rfl
  dsimp only
  rw [ne0]
  simp only [Bool.false_eq_true, if_false]
  refine wpAny_bind (wpAny_owned h0 hz fun r f1 g1 hz1 hs1 => ?_)
  have S1 : Sds b ls k 0 g1 := S.but L (c := z) (by rw [hza]; exact Nat.le_add_right _ 2) fun d o hd e => hs1.extBut d o hd e
  have vl : (valsAt ls k).length = ls.length := by simp [valsAt]
  have TIz : TI ≠ z := by rw [hTIa, hza]; exact Nat.ne_of_lt (by omega)
  have TOz : TO ≠ z := by rw [hTOa, hza]; exact Nat.ne_of_lt (by omega)
  have TITO : TI ≠ TO := by rw [hTIa, hTOa]; exact Nat.ne_of_lt (by omega)
  have step : ∀ (j : Nat) (h2 : Heap), j < ls.length → Sds b ls k j h2 → ∃ p x, ls[j]? = some p ∧ p.2[k]? = some x ∧ (valsAt ls k).take (j + 1) = (valsAt ls k).take j ++ [x] ∧ h2.IsListIter (b + j) p.1 k ∧ h2.IsList p.1 p.2 := fun j h2 hj S2 => by
    obtain ⟨p, hp⟩ : ∃ p, ls[j]? = some p := ⟨_, List.getElem?_eq_getElem hj⟩
    have kp := hk p (List.mem_of_getElem? hp)
    obtain ⟨q1, q2⟩ := S2 j p hp
    rw [if_neg (Nat.lt_irrefl j)] at q1
    refine ⟨p, p.2.getD k .none, hp, ?_, ?_, q1, q2⟩
    · simp [Array.getD, kp]
    · rw [List.take_add_one]
      unfold valsAt
      rw [List.getElem?_map, hp]
      rfl
  cases r with
  | false =>
    simp only [Bool.false_eq_true, if_false]
    refine wpAny_bind ?_
    rw [← Array.forIn_toList]
    refine wpAny_forIn_list _ (fun rem (r : Option Fin × Array Value) s' => ∃ (j : Nat) (acc : Array Value) (h' : Heap), rem = refsAt (b + j) (ls.length - j) ∧ j ≤ ls.length ∧ r = (none, acc) ∧ acc.toList = (valsAt ls k).take j ∧ s' = { s with heap := h' } ∧ Sds b ls k j h' ∧
      h'.objs.size = s.heap.objs.size ∧ ZOf h' z TI TO f0 f1 ∧ TupL h' TI (refsAt b ls.length) ∧ TupL h' TO old ∧ ∀ (c : Addr) (o : Obj), (c : Nat) < b ∨ b + ls.length + 3 ≤ (c : Nat) → s.heap.get? c = some o → h'.get? c = some o) _ ?_ ?_ _ _ ?_
    · rintro it rest r s' ⟨j, acc, h2, hrem, hj, rfl, hacc, rfl, S2, sz2, z2, t2, o2, k2⟩
      have hj2 : j < ls.length := by
        rcases Nat.lt_or_ge j ls.length with q | q
        · exact q
        · have : ls.length - j = 0 := by omega
          rw [this] at hrem
          cases hrem
      obtain ⟨m, hm⟩ : ∃ m, ls.length - j = m + 1 := ⟨ls.length - j - 1, by omega⟩
      rw [hm] at hrem
      have e1 := (List.cons.inj hrem).1
      have e2 := (List.cons.inj hrem).2
      subst e1
      obtain ⟨p, x, hp, hx, hv, q1, q2⟩ := step j h2 hj2 S2
      dsimp only
      refine wpAny_bind (wpAny_holding ?_)
      show wpAny _ _ (Builtin.SmallTypes.nextOf (.ref (b + j)) >>= _) _ _ _
      refine wpAny_bind (wpAny_nextOf_list_item (s := { s with heap := h2 }) q1 q2 hx fun h3 it3 sb => wpAny_pure ?_)
      refine wpAny_pure ⟨j + 1, acc.push x, h3, ?_, hj2, rfl, ?_, rfl, S2.next L hp it3 sb, ?_, ?_, ?_, ?_, ?_⟩
      · rw [e2]
        have z : ls.length - (j + 1) = m := by omega
        rw [z]
        rfl
      · rw [Array.toList_push, hacc, hv]
      · rw [sb.1]; exact sz2
      · exact sb.extBut _ _ (by rw [hza]; exact Nat.ne_of_gt (by omega)) z2
      · exact sb.extBut _ _ (by rw [hTIa]; exact Nat.ne_of_gt (by omega)) t2
      · exact sb.extBut _ _ (by rw [hTOa]; exact Nat.ne_of_gt (by omega)) o2
      · exact fun c o hc e => sb.extBut _ _ (fun q => away hc (show j < ls.length + 3 by omega) q) (k2 c o hc e)
    · rintro r s' ⟨j, acc, h2, hrem, hj, rfl, hacc, rfl, S2, sz2, z2, t2, o2, k2⟩
      have je : j = ls.length := by
        rcases Nat.lt_or_ge j ls.length with q | q
        · obtain ⟨m, hm⟩ : ∃ m, ls.length - j = m + 1 := ⟨ls.length - j - 1, by omega⟩
          rw [hm] at hrem
          cases hrem
        · omega
      subst je
      dsimp only
      refine wpAny_bind (wpAny_newTuple (hsz := by rw [hacc, List.length_take]; exact Nat.le_trans (Nat.le_trans (Nat.min_le_left _ _) n100) (by decide)) ?_)
      refine wpAny_pure ⟨_, rfl, ?_⟩
      have va : acc.toList = valsAt ls k := by rw [hacc]; exact List.take_of_length_le (by omega)
      have hp : TupL (h2.push { cls := .type "tuple", data := .seq acc.toList.toArray }) h2.objs.size (valsAt ls k) := by
        rw [va]
        exact Heap.get?_push_size _ rfl
      have up : ∀ (c : Addr) (o : Obj), h2.get? c = some o → (h2.push { cls := .type "tuple", data := .seq acc.toList.toArray }).get? c = some o := fun c o e => Heap.get?_push_of_some _ e
      have hsz : (h2.push { cls := .type "tuple", data := .seq acc.toList.toArray }).objs.size = h2.objs.size + 1 := Heap.size_push ..
      exact hQ h2.objs.size _ f0 f1 old _ h0 (up _ _ z2) (up _ _ t2) (up _ _ o2) ol (S2.turn.keep up) sz2 hp (by rw [hsz, sz2]) fun c o hc e => up c o (k2 c o hc e)
    · exact ⟨0, #[], g1, rfl, Nat.zero_le _, rfl, rfl, rfl, S1, hs1.1, hz1, hs1.extBut _ _ TIz hTI, hs1.extBut _ _ TOz hTO, fun c o hc e => hs1.extBut _ _ (fun q => away hc (show ls.length + 2 < ls.length + 3 by omega) (q.trans hza)) e⟩
  | true =>
    simp only [if_true]
    refine wpAny_bind (wpAny_rule ?_)
    refine wpAny_bind (wpAny_field hz1 rfl (x := .ref TO) rfl ?_)
    dsimp only
    refine wpAny_bind (wpAny_setField_rec hz1 (by simp) fun g2 hz2 hs2 => ?_)
    replace hz2 : ZOf g2 z TI TO .ellipsis f1 := hz2
    have S2 : Sds b ls k 0 g2 := S1.but L (c := z) (by rw [hza]; exact Nat.le_add_right _ 2) fun d o hd e => hs2.extBut d o hd e
    refine wpAny_bind ?_
    refine wpAny_forIn_list _ (fun rem (r : Option Fin × Unit) s' => ∃ (j : Nat) (acc : List Value) (h' : Heap), rem = (refsAt (b + j) (ls.length - j)).zipIdx j ∧ j ≤ ls.length ∧ r = (none, ()) ∧ acc.length = ls.length ∧ acc.take j = (valsAt ls k).take j ∧ s' = { s with heap := h' } ∧ Sds b ls k j h' ∧
      h'.objs.size = s.heap.objs.size ∧ ZOf h' z TI TO .ellipsis f1 ∧ TupL h' TI (refsAt b ls.length) ∧ TupL h' TO acc ∧ ∀ (c : Addr) (o : Obj), (c : Nat) < b ∨ b + ls.length + 3 ≤ (c : Nat) → s.heap.get? c = some o → h'.get? c = some o) _ ?_ ?_ _ _ ?_
    · rintro ⟨it, kk⟩ rest r s' ⟨j, acc, h2, hrem, hj, rfl, al, hacc, rfl, S2, sz2, z2, t2, o2, k2⟩
      have hj2 : j < ls.length := by
        rcases Nat.lt_or_ge j ls.length with q | q
        · exact q
        · have : ls.length - j = 0 := by omega
          rw [this] at hrem
          cases hrem
      obtain ⟨m, hm⟩ : ∃ m, ls.length - j = m + 1 := ⟨ls.length - j - 1, by omega⟩
      rw [hm] at hrem
      have hrem2 : (it, kk) :: rest = (Value.ref (b + j), j) :: (refsAt (b + j + 1) m).zipIdx (j + 1) := hrem
      have e1 := (List.cons.inj hrem2).1
      have e2 := (List.cons.inj hrem2).2
      have e3 : it = Value.ref (b + j) := (Prod.mk.inj e1).1
      have e4 : j = kk := (Prod.mk.inj e1).2.symm
      subst e3
      subst e4
      obtain ⟨p, x, hp, hx, hv, q1, q2⟩ := step j h2 hj2 S2
      dsimp only
      refine wpAny_bind (wpAny_onRaise ?_)
      show wpAny _ _ (Builtin.SmallTypes.nextOf (.ref (b + j)) >>= _) _ _ _
      refine wpAny_bind (wpAny_nextOf_list_item (s := { s with heap := h2 }) q1 q2 hx fun h3 it3 sb => wpAny_pure ?_)
      dsimp only
      have o3 : TupL h3 TO acc := sb.extBut _ _ (by rw [hTOa]; exact Nat.ne_of_gt (by omega)) o2
      refine wpAny_bind (wpAny_seqItems (s := { s with heap := h3 }) o3 rfl ?_)
      dsimp only
      have asz : acc.toArray.size ≤ sizeLine := by rw [List.size_toArray, al]; exact Nat.le_trans n100 (by decide)
      refine wpAny_bind (wpAny_updateSeq (s := { s with heap := h3 }) o3 rfl ?_ asz (by rw [Array.size_setIfInBounds]; exact Nat.le_succ_of_le asz))
      have sb2 : Heap.SameBut TO h3 (h3.update TO (Obj.mapSeq (·.setIfInBounds j x))) := Heap.SameBut.update ..
      have o4 : TupL (h3.update TO (Obj.mapSeq (·.setIfInBounds j x))) TO (acc.set j x) := by
        have z := Heap.get?_update_self (Obj.mapSeq (·.setIfInBounds j x)) o3 rfl
        refine z.trans ?_
        simp [Obj.mapSeq]
      revert sb2 o4
      generalize h3.update TO (Obj.mapSeq (·.setIfInBounds j x)) = h4
      intro sb2 o4
      refine wpAny_bind (wpAny_letGo (wpAny_pure ⟨j + 1, acc.set j x, h4, ?_, hj2, rfl, by rw [List.length_set]; exact al, ?_, rfl, (S2.next L hp it3 sb).but L (c := TO) (by rw [hTOa]; exact Nat.le_add_right _ 1) (fun d o hd e => sb2.extBut d o hd e), ?_, ?_, ?_, o4, ?_⟩))
      · rw [e2]
        have z : ls.length - (j + 1) = m := by omega
        rw [z]
        rfl
      · have aj : j < acc.length := by omega
        rw [hv, ← hacc, List.take_add_one, List.take_set_of_le (Nat.le_refl j), List.getElem?_set_self aj]
        rfl
      · rw [sb2.1, sb.1]; exact sz2
      · exact sb2.extBut _ _ TOz.symm (sb.extBut _ _ (by rw [hza]; exact Nat.ne_of_gt (by omega)) z2)
      · exact sb2.extBut _ _ TITO (sb.extBut _ _ (by rw [hTIa]; exact Nat.ne_of_gt (by omega)) t2)
      · exact fun c o hc e => sb2.extBut _ _ (fun q => away hc (show ls.length + 1 < ls.length + 3 by omega) (q.trans hTOa)) (sb.extBut _ _ (fun q => away hc (show j < ls.length + 3 by omega) q) (k2 c o hc e))
    · rintro r s' ⟨j, acc, h2, hrem, hj, rfl, al, hacc, rfl, S2, sz2, z2, t2, o2, k2⟩
      have je : j = ls.length := by
        rcases Nat.lt_or_ge j ls.length with q | q
        · obtain ⟨m, hm⟩ : ∃ m, ls.length - j = m + 1 := ⟨ls.length - j - 1, by omega⟩
          rw [hm] at hrem
          cases hrem
        · omega
      subst je
      have va : acc = valsAt ls k := by
        rw [List.take_of_length_le (by omega), List.take_of_length_le (by omega)] at hacc
        exact hacc
      subst va
      dsimp only
      refine wpAny_bind (wpAny_seqItems (s := { s with heap := h2 }) o2 rfl ?_)
      dsimp only
      refine wpAny_bind (wpAny_newTuple (hsz := by rw [al]; exact Nat.le_trans n100 (by decide)) ?_)
      have hp : TupL (h2.push { cls := .type "tuple", data := .seq (valsAt ls k).toArray.toList.toArray }) h2.objs.size (valsAt ls k) := Heap.get?_push_size _ rfl
      have up : ∀ (c : Addr) (o : Obj), h2.get? c = some o → (h2.push { cls := .type "tuple", data := .seq (valsAt ls k).toArray.toList.toArray }).get? c = some o := fun c o e => Heap.get?_push_of_some _ e
      have hsz : (h2.push { cls := .type "tuple", data := .seq (valsAt ls k).toArray.toList.toArray }).objs.size = h2.objs.size + 1 := Heap.size_push ..
      have z3 := up _ _ z2
      have S3 := S2.turn.keep up
      have t3 := up _ _ t2
      have o3 := up _ _ o2
      revert hp up hsz z3 S3 t3 o3
      generalize h2.push { cls := .type "tuple", data := .seq (valsAt ls k).toArray.toList.toArray } = h3
      intro hp up hsz z3 S3 t3 o3
      show wpAny _ _ (Builtin.SmallTypes.ownedTupleHandOut (.ref z) (.ref h2.objs.size) >>= _) _ _ { s with heap := h3 }
      refine wpAny_bind ?_
      unfold Builtin.SmallTypes.ownedTupleHandOut
      refine wpAny_bind (wpAny_setField_rec z3 (by simp) fun h₇ hz₇ hs₇ => ?_)
      replace hz₇ : ZOf h₇ z TI TO (rawInt h2.objs.size) f1 := hz₇
      refine wpAny_setField_rec hz₇ (by simp) fun h₈ hz₈ hs₈ => ?_
      replace hz₈ : ZOf h₈ z TI TO (rawInt h2.objs.size) false := hz₈
      have k8 : ∀ (c : Addr) (o : Obj), c ≠ z → h3.get? c = some o → h₈.get? c = some o := fun c o hc e => hs₈.extBut c o hc (hs₇.extBut c o hc e)
      have zz : h2.objs.size ≠ z := by rw [hza, sz2]; exact Nat.ne_of_gt (by omega)
      refine wpAny_pure ⟨_, rfl, ?_⟩
      exact hQ h2.objs.size h₈ (rawInt h2.objs.size) false (valsAt ls k) s.toks (.inr ⟨_, rfl⟩) hz₈ (k8 _ _ TIz t3) (k8 _ _ TOz o3) vl (S3.but L (c := z) (by rw [hza]; exact Nat.le_add_right _ 2) fun d o hd e => k8 d o hd e) sz2 (k8 _ _ zz hp) (by rw [hs₈.1, hs₇.1, hsz, sz2])
        fun c o hc e => k8 c o (fun q => away hc (show ls.length + 2 < ls.length + 3 by omega) (q.trans hza)) (up c o (k2 c o hc e))
    · exact ⟨0, old, g2, rfl, Nat.zero_le _, rfl, ol, rfl, rfl, S2, by rw [hs2.1, hs1.1], hz2, hs2.extBut _ _ TIz (hs1.extBut _ _ TIz hTI), hs2.extBut _ _ TOz (hs1.extBut _ _ TOz hTO), fun c o hc e => hs2.extBut _ _ (fun q => away hc (show ls.length + 2 < ls.length + 3 by omega) (q.trans hza)) (hs1.extBut _ _ (fun q => away hc (show ls.length + 2 < ls.length + 3 by omega) (q.trans hza)) e)⟩
end
end PySem

/-! zip over any number of lists: the end; next(..); how it begins -/
namespace PySem
open PySem.W
section
variable {prog : Program} {w : World} {A : Around} {E : Value → Shared → Prop} {s : Shared}
theorem zipN_end {b k : Nat} {ls : List (Addr × Array Value)} {z TI TO : Addr} {f0 : Value} {f : Bool} {Q : Fin → Shared → Prop} (hh : A.handled = none) (h0 : f0 = .none ∨ ∃ T : Nat, f0 = rawInt T) (L : Low b ls) (n1 : 0 < ls.length)
    (hTIa : TI = b + ls.length) (hTOa : TO = b + ls.length + 1) (hza : z = b + ls.length + 2)
    (hz : ZOf s.heap z TI TO f0 f) (hTI : TupL s.heap TI (refsAt b ls.length)) (S : Sds b ls k 0 s.heap) (hk : ∀ p, ls[0]? = some p → k = p.2.size)
    (hE : ∀ h' tk e, (∀ (c : Addr) (o : Obj), (c : Nat) < b ∨ b + ls.length + 3 ≤ (c : Nat) → s.heap.get? c = some o → h'.get? c = some o) → (∃ o, h'.get? e = some o ∧ o.cls = .type "StopIteration") → E (.ref e) { s with heap := h', toks := tk }) :
    wpAny (model prog w) A (Builtin.«zip.__next__» ⟨[.ref z], []⟩) Q E s := by
  show wpAny _ _ (field (.ref z) 2 >>= _) _ _ _
  refine wpAny_bind (wpAny_field hz rfl (x := .bool false) rfl ?_)
  show wpAny _ _ (field (.ref z) 3 >>= _) _ _ _
  refine wpAny_bind (wpAny_field hz rfl (x := .ref TI) rfl ?_)
  refine wpAny_bind (wpAny_seqItems hTI rfl ?_)
  obtain ⟨m, hm⟩ : ∃ m, ls.length = m + 1 := ⟨ls.length - 1, by omega⟩
  have ne0 : (refsAt b ls.length).toArray.isEmpty = false := by rw [hm]; rfl
  dsimp only
  rw [ne0]
  simp only [Bool.false_eq_true, if_false]
  refine wpAny_bind (wpAny_owned h0 hz fun r f1 g1 hz1 hs1 => ?_)
  have S1 : Sds b ls k 0 g1 := S.but L (c := z) (by rw [hza]; exact Nat.le_add_right _ 2) fun d o hd e => hs1.extBut d o hd e
  obtain ⟨p, hp⟩ : ∃ p, ls[0]? = some p := ⟨_, List.getElem?_eq_getElem n1⟩
  have kp := hk p hp
  have hx : p.2[k]? = none := by rw [kp]; simp
  cases r with
  | false =>
    simp only [Bool.false_eq_true, if_false]
    refine wpAny_bind ?_
    rw [← Array.forIn_toList, hm]
    show wpAny _ _ (forIn (Value.ref b :: refsAt (b + 1) m) _ _) _ _ _
    rw [List.forIn_cons]
    refine wpAny_bind ?_
    dsimp only
    refine wpAny_bind (wpAny_holding ?_)
    show wpAny _ _ (Builtin.SmallTypes.nextOf (.ref b) >>= _) _ _ _
    obtain ⟨q1, q2⟩ := S1 0 p hp
    rw [if_neg (Nat.lt_irrefl 0)] at q1
    refine wpAny_bind (wpAny_nextOf_list_end (s := { s with heap := g1 }) hh q1 q2 hx fun h₂ e hs₂ he => ?_)
    exact hE h₂ s.toks e (fun c o hc x => hs₂ _ _ (away hc (show 0 < ls.length + 3 by omega)) (hs1.extBut _ _ (fun q => away hc (show ls.length + 2 < ls.length + 3 by omega) (q.trans hza)) x)) he
  | true =>
    simp only [if_true]
    refine wpAny_bind (wpAny_rule ?_)
    refine wpAny_bind (wpAny_field hz1 rfl (x := .ref TO) rfl ?_)
    dsimp only
    refine wpAny_bind (wpAny_setField_rec hz1 (by simp) fun g2 hz2 hs2 => ?_)
    replace hz2 : ZOf g2 z TI TO .ellipsis f1 := hz2
    have S2 : Sds b ls k 0 g2 := S1.but L (c := z) (by rw [hza]; exact Nat.le_add_right _ 2) fun d o hd e => hs2.extBut d o hd e
    refine wpAny_bind ?_
    rw [hm]
    show wpAny _ _ (forIn ((Value.ref b, 0) :: (refsAt (b + 1) m).zipIdx 1) _ _) _ _ _
    rw [List.forIn_cons]
    refine wpAny_bind ?_
    dsimp only
    refine wpAny_bind (wpAny_onRaise ?_)
    show wpAny _ _ (Builtin.SmallTypes.nextOf (.ref b) >>= _) _ _ _
    obtain ⟨q1, q2⟩ := S2 0 p hp
    rw [if_neg (Nat.lt_irrefl 0)] at q1
    have hbz : z ≠ b := by rw [hza]; exact Nat.ne_of_gt (by omega)
    refine wpAny_bind (wpAny_nextOf_list_end (s := { s with heap := g2 }) hh q1 q2 hx fun h₂ e hs₂ he => ?_)
    obtain ⟨oe, hoe, hce⟩ := he
    have hzq : ZOf h₂ z TI TO .ellipsis f1 := hs₂ _ _ hbz hz2
    have hez : e ≠ z := fun x => by
      rw [x] at hoe
      rw [show h₂.get? z = _ from hzq] at hoe
      cases hoe
      simp at hce
    refine wpAny_setField_rec (s := { s with heap := h₂ }) hzq (by simp) fun q' _ hq' => ?_
    exact hE q' s.toks e (fun c o hc x => hq'.extBut _ _ (fun q => away hc (show ls.length + 2 < ls.length + 3 by omega) (q.trans hza)) (hs₂ _ _ (away hc (show 0 < ls.length + 3 by omega)) (hs2.extBut _ _ (fun q => away hc (show ls.length + 2 < ls.length + 3 by omega) (q.trans hza)) (hs1.extBut _ _ (fun q => away hc (show ls.length + 2 < ls.length + 3 by omega) (q.trans hza)) x)))) ⟨oe, hq'.extBut _ _ hez hoe, hce⟩
/-- the state between two turns -/
structure ZAt (b k : Nat) (ls : List (Addr × Array Value)) (h : Heap) : Prop where
  z : ∃ f0 f, (f0 = .none ∨ ∃ T : Nat, f0 = rawInt T) ∧ ZOf h (b + ls.length + 2) (b + ls.length) (b + ls.length + 1) f0 f
  ti : TupL h (b + ls.length) (refsAt b ls.length)
  to_ : ∃ old, TupL h (b + ls.length + 1) old ∧ old.length = ls.length
  sd : Sds b ls k 0 h
theorem ZAt.lt {b k : Nat} {ls : List (Addr × Array Value)} {h : Heap} (Z : ZAt b k ls h) : b + ls.length + 3 ≤ h.objs.size := by
  obtain ⟨f0, f, _, hz⟩ := Z.z
  have := Heap.lt_size hz
  exact this
theorem pyNext_zipN_item {b k : Nat} {ls : List (Addr × Array Value)} {Q : Option Value → Shared → Prop} (L : Low b ls) (n1 : 0 < ls.length) (n100 : ls.length ≤ 100) (Z : ZAt b k ls s.heap) (hk : ∀ p ∈ ls, k < p.2.size)
    (hQ : ∀ h' tk, ZAt b (k + 1) ls h' → TupL h' s.heap.objs.size (valsAt ls k) → h'.objs.size = s.heap.objs.size + 1 → (∀ (c : Addr) (o : Obj), (c : Nat) < b ∨ b + ls.length + 3 ≤ (c : Nat) → s.heap.get? c = some o → h'.get? c = some o) → Q (some (.ref s.heap.objs.size)) { s with heap := h', toks := tk }) :
    wpAny (model prog w) A (pyNext (.ref (b + ls.length + 2))) Q E s := by
  obtain ⟨f0, f, h0, hz⟩ := Z.z
  obtain ⟨old, ho, ol⟩ := Z.to_
  have hT : s.TypeIs (.ref (b + ls.length + 2)) "zip" := ⟨_, hz, rfl⟩
  unfold pyNext
  exact wpAny_bind (wpAny_attempt (wpAny_callSpecial?_slot (name := Str.ofString "__next__") hT F.slot_zip_next
    (wpAny_call_entry F.slot_zip_next hT F.entry_zip_next
      (zipN_next h0 L n1 n100 Z.lt rfl rfl rfl hz Z.ti ho ol Z.sd hk fun T h' f0' f' old' tk a1 a2 a3 a4 a5 a6 a7 a8 a9 a10 => by
        subst a7
        exact wpAny_pure (hQ h' tk ⟨⟨_, _, a1, a2⟩, a3, ⟨_, a4, a5⟩, a6⟩ a8 a9 a10)) (F.args_zip_next_1 _))))
theorem pyNext_zipN_end {b k : Nat} {ls : List (Addr × Array Value)} {Q : Option Value → Shared → Prop} (hh : A.handled = none) (L : Low b ls) (n1 : 0 < ls.length) (Z : ZAt b k ls s.heap) (hk : ∀ p, ls[0]? = some p → k = p.2.size)
    (hQ : ∀ h' tk, (∀ (c : Addr) (o : Obj), (c : Nat) < b ∨ b + ls.length + 3 ≤ (c : Nat) → s.heap.get? c = some o → h'.get? c = some o) → Q none { s with heap := h', toks := tk }) :
    wpAny (model prog w) A (pyNext (.ref (b + ls.length + 2))) Q E s := by
  obtain ⟨f0, f, h0, hz⟩ := Z.z
  have hT : s.TypeIs (.ref (b + ls.length + 2)) "zip" := ⟨_, hz, rfl⟩
  unfold pyNext
  refine wpAny_bind (wpAny_attempt (wpAny_callSpecial?_slot (name := Str.ofString "__next__") hT F.slot_zip_next
    (wpAny_call_entry F.slot_zip_next hT F.entry_zip_next (zipN_end hh h0 L n1 rfl rfl rfl hz Z.ti Z.sd hk fun h' tk e hk2 he => ?_) (F.args_zip_next_1 _))))
  obtain ⟨o, ho, hc⟩ := he
  refine wpAny_bind (wpAny_isInstance (T := "StopIteration") (b := true) ⟨o, ho, hc⟩ isSubtype_stop ?_)
  exact wpAny_pure (hQ _ _ hk2)
end
end PySem

/-! zip(a, b, ..) begins -/
namespace PySem
open PySem.W
theorem F.typeCall_zip_1 (a : Value) : checkTypeCall "zip" ⟨[a], []⟩ = pure () := by kernel_rfl
theorem F.typeCall_zip_4 (a b c d : Value) : checkTypeCall "zip" ⟨[a, b, c, d], []⟩ = pure () := by kernel_rfl
theorem F.typeCall_zip_5 (a b c d e : Value) : checkTypeCall "zip" ⟨[a, b, c, d, e], []⟩ = pure () := by kernel_rfl
theorem F.typeCall_zip_6 (a b c d e f : Value) : checkTypeCall "zip" ⟨[a, b, c, d, e, f], []⟩ = pure () := by kernel_rfl
theorem F.newCall_zip_1 (a : Value) : checkBuiltinCall "zip.__new__" ⟨[.type "zip", a], []⟩ = pure () := by kernel_rfl
theorem F.newCall_zip_4 (a b c d : Value) : checkBuiltinCall "zip.__new__" ⟨[.type "zip", a, b, c, d], []⟩ = pure () := by kernel_rfl
theorem F.newCall_zip_5 (a b c d e : Value) : checkBuiltinCall "zip.__new__" ⟨[.type "zip", a, b, c, d, e], []⟩ = pure () := by kernel_rfl
theorem F.newCall_zip_6 (a b c d e f : Value) : checkBuiltinCall "zip.__new__" ⟨[.type "zip", a, b, c, d, e, f], []⟩ = pure () := by kernel_rfl
theorem F.args_object_init_5 (obj a b c d : Value) : argsOk "object.__init__" ⟨[obj, a, b, c, d], []⟩ := by
  unfold argsOk; rw [signature?_of (id := "object.__init__") (n := ['_', '_', 'i', 'n', 'i', 't', '_', '_'].reverse) (o := ['o', 'b', 'j', 'e', 'c', 't'].reverse) (by kernel_rfl) owner_object]; kernel_rfl
theorem F.args_object_init_6 (obj a b c d e : Value) : argsOk "object.__init__" ⟨[obj, a, b, c, d, e], []⟩ := by
  unfold argsOk; rw [signature?_of (id := "object.__init__") (n := ['_', '_', 'i', 'n', 'i', 't', '_', '_'].reverse) (o := ['o', 'b', 'j', 'e', 'c', 't'].reverse) (by kernel_rfl) owner_object]; kernel_rfl
theorem F.args_object_init_7 (obj a b c d e f : Value) : argsOk "object.__init__" ⟨[obj, a, b, c, d, e, f], []⟩ := by
  unfold argsOk; rw [signature?_of (id := "object.__init__") (n := ['_', '_', 'i', 'n', 'i', 't', '_', '_'].reverse) (o := ['o', 'b', 'j', 'e', 'c', 't'].reverse) (by kernel_rfl) owner_object]; kernel_rfl
theorem refsAt_snoc : ∀ (n b : Nat), refsAt b (n + 1) = refsAt b n ++ [.ref (b + n)]
  | 0, b => rfl
  | n + 1, b => by
    show Value.ref b :: refsAt (b + 1) (n + 1) = Value.ref b :: (refsAt (b + 1) n ++ _)
    rw [refsAt_snoc n (b + 1)]
    have e : b + 1 + n = b + (n + 1) := by omega
    rw [e]
def lrefs (ls : List (Addr × Array Value)) : List Value := ls.map fun p => .ref p.1
section
variable {prog : Program} {w : World} {A : Around} {E : Value → Shared → Prop} {s : Shared}
/-- the iterators -/
theorem wpAny_iterAll {ls : List (Addr × Array Value)} {Q : List Value → Shared → Prop} (hl : ∀ p ∈ ls, s.heap.IsList p.1 p.2)
    (h : ∀ h', Sds s.heap.objs.size ls 0 0 h' → h'.objs.size = s.heap.objs.size + ls.length → (∀ (c : Addr) (o : Obj), s.heap.get? c = some o → h'.get? c = some o) → Q (refsAt s.heap.objs.size ls.length) { s with heap := h' }) :
    wpAny (model prog w) A (Builtin.SmallTypes.iterAll (lrefs ls)) Q E s := by
  unfold Builtin.SmallTypes.iterAll
  refine wpAny_bind ?_
  refine wpAny_forIn_list _ (fun rem (r : Array Value) s' => ∃ (j : Nat) (h' : Heap), rem = (lrefs ls).drop j ∧ j ≤ ls.length ∧ r.toList = refsAt s.heap.objs.size j ∧ s' = { s with heap := h' } ∧ h'.objs.size = s.heap.objs.size + j ∧
    (∀ (c : Addr) (o : Obj), s.heap.get? c = some o → h'.get? c = some o) ∧ ∀ (m : Nat) (p : Addr × Array Value), m < j → ls[m]? = some p → h'.IsListIter (s.heap.objs.size + m) p.1 0) _ ?_ ?_ _ _ ?_
  · rintro x rest r s' ⟨j, h2, hrem, hj, hr, rfl, sz, k2, it2⟩
    have hj2 : j < ls.length := by
      rcases Nat.lt_or_ge j ls.length with q | q
      · exact q
      · rw [List.drop_of_length_le (by simp [lrefs]; exact q)] at hrem
        cases hrem
    have hd : (lrefs ls).drop j = .ref (ls[j]).1 :: (lrefs ls).drop (j + 1) := by
      have hl2 : j < (lrefs ls).length := by simp [lrefs]; exact hj2
      rw [List.drop_eq_getElem_cons hl2]
      congr 1
      simp [lrefs]
    rw [hd] at hrem
    have e1 := (List.cons.inj hrem).1
    have e2 := (List.cons.inj hrem).2
    subst e1
    have hlj := hl _ (List.getElem_mem hj2)
    refine wpAny_bind (wpAny_holding ?_)
    refine wpAny_pyIter_list (s := { s with heap := h2 }) (items := (ls[j]).2) (hlj.at fun o e => k2 _ o e) ?_
    refine wpAny_pure ⟨j + 1, _, e2, hj2, ?_, rfl, ?_, fun c o e => Heap.get?_push_of_some _ (k2 c o e), fun m p hm hp => ?_⟩
    · rw [Array.toList_push, hr]
      show refsAt s.heap.objs.size j ++ [Value.ref h2.objs.size] = _
      rw [sz]
      exact (refsAt_snoc j s.heap.objs.size).symm
    · rw [Heap.size_push, sz]
      rfl
    · by_cases q : m < j
      · exact (it2 m p q hp).at fun o e => Heap.get?_push_of_some _ e
      · have mj : m = j := by omega
        subst mj
        have : p = ls[m] := by
          rw [List.getElem?_eq_getElem hj2] at hp
          exact (Option.some.inj hp).symm
        subst this
        rw [← sz]
        exact ⟨_, Heap.get?_push_size _ rfl, rfl, rfl⟩
  · rintro r s' ⟨j, h2, hrem, hj, hr, rfl, sz, k2, it2⟩
    have je : j = ls.length := by
      rcases Nat.lt_or_ge j ls.length with q | q
      · have hl2 : j < (lrefs ls).length := by simp [lrefs]; exact q
        rw [List.drop_eq_getElem_cons hl2] at hrem
        cases hrem
      · omega
    subst je
    refine wpAny_pure ?_
    rw [hr]
    exact h h2 (fun m p hp => ⟨by rw [if_neg (Nat.not_lt_zero m)]; exact it2 m p (List.getElem?_eq_some_iff.mp hp).1 hp, (hl p (List.mem_of_getElem? hp)).at fun o e => k2 _ o e⟩) sz k2
  · exact ⟨0, s.heap, rfl, Nat.zero_le _, rfl, rfl, rfl, fun _ _ e => e, fun m p h => absurd h (Nat.not_lt_zero m)⟩
theorem meets_zipN {ls : List (Addr × Array Value)} (n1 : 0 < ls.length) (n100 : ls.length ≤ 100) :
    Meets (Builtin.«zip.__new__» ⟨.type "zip" :: lrefs ls, []⟩) (fun _ R s => (∀ p ∈ ls, s.heap.IsList p.1 p.2) ∧
      ∀ h', ZAt s.heap.objs.size 0 ls h' → h'.objs.size = s.heap.objs.size + ls.length + 3 → (∀ (c : Addr) (o : Obj), s.heap.get? c = some o → h'.get? c = some o) → R (.ok (.ret (.ref (s.heap.objs.size + ls.length + 2)))) { s with heap := h' }) :=
  .of_wp fun prog w A R s h => by
    obtain ⟨hp, g, d, tk, os⟩ := s
    obtain ⟨hl, h⟩ := h
    dsimp only at hl h
    have hsub := sub_zip
    unfold Builtin.«zip.__new__» Builtin.SmallTypes.newClass
    dsimp only
    refine wpAny_bind (wpAny_bind (wpAny_of_eq (a := true) (by rfl) ?_))
    simp only [Bool.not_true, Bool.false_eq_true, if_false]
    refine wpAny_bind (wpAny_of_eq (a := true) hsub ?_)
    simp only [Bool.not_true, Bool.false_eq_true, if_false]
    refine wpAny_pure ?_
    simp only [List.length_nil, show ¬ (0 > 1) from by decide, if_false]
    refine wpAny_bind (wpAny_iterAll (s := ⟨hp, g, d, tk, os⟩) hl fun h1 S1 sz1 k1 => ?_)
    dsimp only at S1 sz1 k1 ⊢
    have rl := refsAt_len ls.length hp.objs.size
    have small : ls.length ≤ sizeLine := Nat.le_trans n100 (by decide)
    refine wpAny_bind (wpAny_newTuple (hsz := by show (refsAt hp.objs.size ls.length).length ≤ sizeLine; rw [rl]; exact small) ?_)
    dsimp only
    refine wpAny_bind (wpAny_newTuple (hsz := by rw [List.length_map]; show (refsAt hp.objs.size ls.length).length ≤ sizeLine; rw [rl]; exact small) ?_)
    dsimp only
    refine wpAny_bind ?_
    unfold Builtin.SmallTypes.newRecord
    dsimp only
    refine wpAny_newObj_type ?_ (by show (5 : Nat) ≤ sizeLine + 2; decide)
    refine wpAny_pure ⟨_, rfl, ?_⟩
    dsimp only
    have e1 : h1.objs.size = hp.objs.size + ls.length := sz1
    obtain ⟨t1, ht1⟩ : ∃ t1, t1 = h1.push { cls := .type "tuple", data := .seq (refsAt hp.objs.size ls.length).toArray } := ⟨_, rfl⟩
    have s1 : t1.objs.size = hp.objs.size + ls.length + 1 := by rw [ht1, Heap.size_push, e1]
    have g1 : t1.get? (hp.objs.size + ls.length) = some { cls := .type "tuple", data := .seq (refsAt hp.objs.size ls.length).toArray } := by rw [ht1, ← e1]; exact Heap.get?_push_size _ rfl
    have u1 : ∀ (c : Addr) (o : Obj), h1.get? c = some o → t1.get? c = some o := fun c o e => by rw [ht1]; exact Heap.get?_push_of_some _ e
    rw [← ht1]
    obtain ⟨t2, ht2⟩ : ∃ t2, t2 = t1.push { cls := .type "tuple", data := .seq ((refsAt hp.objs.size ls.length).map (fun _ => Value.none)).toArray } := ⟨_, rfl⟩
    have s2 : t2.objs.size = hp.objs.size + ls.length + 2 := by rw [ht2, Heap.size_push, s1]
    have g2 : t2.get? (hp.objs.size + ls.length + 1) = some { cls := .type "tuple", data := .seq ((refsAt hp.objs.size ls.length).map (fun _ => Value.none)).toArray } := by rw [ht2, ← s1]; exact Heap.get?_push_size _ rfl
    have u2 : ∀ (c : Addr) (o : Obj), t1.get? c = some o → t2.get? c = some o := fun c o e => by rw [ht2]; exact Heap.get?_push_of_some _ e
    rw [← ht2]
    rw [e1, s1, s2]
    have g3 := Heap.get?_push_size t2 (o := { cls := Value.type "zip", data := Data.fields (Builtin.SmallTypes.ownedTupleFields ++ [Value.bool false, Value.ref (hp.objs.size + ls.length), Value.ref (hp.objs.size + ls.length + 1)]).toArray }) rfl
    rw [s2] at g3
    refine h _ ⟨⟨.none, false, .inl rfl, g3⟩, Heap.get?_push_of_some _ (u2 _ _ g1), ⟨_, Heap.get?_push_of_some _ g2, by rw [List.length_map, rl]⟩, (S1.keep u1 |>.keep u2).keep fun c o e => Heap.get?_push_of_some _ e⟩ ?_ (fun c o e => Heap.get?_push_of_some _ (u2 _ _ (u1 _ _ (k1 c o e))))
    rw [Heap.size_push, s2]
end
end PySem

/-! for x in zip(*xs): xs a list or a tuple of one to six lists of one length -/
namespace PySem
open PySem.W PyProof.Rows
section
variable {prog : Program} {w : World} {A : Around} {E : Value → Shared → Prop} {s : Shared}
theorem callWith_typeS {pos : Pos} {T : String} {args : List (Bool × Sem Value)} {Q : Value → Shared → Prop} (hst : args.any (·.1) = true)
    (h : wpAny (model prog w) A (evalArgs (.type T) true args []) (fun a s₁ => wpAny (model prog w) A (call (.type T) a.pos a.kw) Q E s₁) E s) :
    wpAny (model prog w) A (callWith pos (.type T) [] args []) Q E s := by
  unfold callWith
  refine wpAny_bind (wpAny_holding (wpAny_mono h (fun a s₁ h₁ => wpAny_bind (wpAny_standAt ?_)) fun _ _ x => x))
  simp only [hst, Bool.true_or]
  refine wpAny_bind (wpAny_pure ?_)
  exact wpAny_bind (wpAny_mono (wpAny_operateT h₁) (fun r s₂ hr => wpAny_bind (wpAny_holding (wpAny_point (wpAny_pure hr)))) fun _ _ x => x)
theorem call_zipN {ls : List (Addr × Array Value)} {Q : Value → Shared → Prop} (n1 : 0 < ls.length) (n6 : ls.length ≤ 6) (hl : ∀ p ∈ ls, s.heap.IsList p.1 p.2)
    (h : ∀ h', ZAt s.heap.objs.size 0 ls h' → h'.objs.size = s.heap.objs.size + ls.length + 3 → (∀ (c : Addr) (o : Obj), s.heap.get? c = some o → h'.get? c = some o) → Q (.ref (s.heap.objs.size + ls.length + 2)) { s with heap := h' }) :
    wpAny (model prog w) A (call (.type "zip") (lrefs ls)) Q E s := by
  have fin : ∀ h', ZAt s.heap.objs.size 0 ls h' → h'.objs.size = s.heap.objs.size + ls.length + 3 → (∀ (c : Addr) (o : Obj), s.heap.get? c = some o → h'.get? c = some o) → Shared.TypeIs { s with heap := h' } (.ref (s.heap.objs.size + ls.length + 2)) "zip" ∧ Q (.ref (s.heap.objs.size + ls.length + 2)) { s with heap := h' } := fun h' Z e k =>
    ⟨let ⟨_, _, _, q⟩ := Z.z; ⟨_, q, rfl⟩, h h' Z e k⟩
  match ls, n1, n6, hl, fin with
  | [a], n1, n6, hl, fin => exact callType_new F.called_zip (by decide) (F.typeCall_zip_1 _) (F.newCall_zip_1 _) (fun obj => F.args_object_init_2 obj _) F.entry_zip_new (meets_zipN (ls := [a]) n1 (Nat.le_trans n6 (by decide))) ⟨hl, fin⟩
  | [a, b], n1, n6, hl, fin => exact callType_new F.called_zip (by decide) (F.typeCall_zip_2 _ _) (F.newCall_zip_2 _ _) (fun obj => F.args_object_init_3 obj _ _) F.entry_zip_new (meets_zipN (ls := [a, b]) n1 (Nat.le_trans n6 (by decide))) ⟨hl, fin⟩
  | [a, b, c], n1, n6, hl, fin => exact callType_new F.called_zip (by decide) (F.typeCall_zip_3 _ _ _) (F.newCall_zip_3 _ _ _) (fun obj => F.args_object_init_4 obj _ _ _) F.entry_zip_new (meets_zipN (ls := [a, b, c]) n1 (Nat.le_trans n6 (by decide))) ⟨hl, fin⟩
  | [a, b, c, d], n1, n6, hl, fin => exact callType_new F.called_zip (by decide) (F.typeCall_zip_4 _ _ _ _) (F.newCall_zip_4 _ _ _ _) (fun obj => F.args_object_init_5 obj _ _ _ _) F.entry_zip_new (meets_zipN (ls := [a, b, c, d]) n1 (Nat.le_trans n6 (by decide))) ⟨hl, fin⟩
  | [a, b, c, d, e], n1, n6, hl, fin => exact callType_new F.called_zip (by decide) (F.typeCall_zip_5 _ _ _ _ _) (F.newCall_zip_5 _ _ _ _ _) (fun obj => F.args_object_init_6 obj _ _ _ _ _) F.entry_zip_new (meets_zipN (ls := [a, b, c, d, e]) n1 (Nat.le_trans n6 (by decide))) ⟨hl, fin⟩
  | [a, b, c, d, e, f], n1, n6, hl, fin => exact callType_new F.called_zip (by decide) (F.typeCall_zip_6 _ _ _ _ _ _) (F.newCall_zip_6 _ _ _ _ _ _) (fun obj => F.args_object_init_7 obj _ _ _ _ _ _) F.entry_zip_new (meets_zipN (ls := [a, b, c, d, e, f]) n1 (Nat.le_trans n6 (by decide))) ⟨hl, fin⟩
  | a :: b :: c :: d :: e :: f :: g :: r, n1, n6, hl, fin => exact absurd n6 (by simp)
end
end PySem
namespace L2
open PySem PySem.Spec PyProof.Rows
/-- the lists of a zip as they stand -/
inductive AsL (h : Heap) : List (Addr × List V) → List (Addr × Array Value) → Prop where
  | nil : AsL h [] []
  | cons {a : Addr} {xs : List V} {its : Array Value} {ys : List (Addr × List V)} {ls : List (Addr × Array Value)} : Vals xs its.toList → h.IsList a its → AsL h ys ls → AsL h ((a, xs) :: ys) ((a, its) :: ls)
section
variable {X : Cx} {pins : List (Addr × Obj)} {σ : St} {H : Hp} {s : Shared}
theorem asL_of (I : Inv X pins σ H s) : ∀ (ys : List (Addr × List V)), (∀ p ∈ ys, SqL X.K H p.1 p.2) → ∃ ls, AsL s.heap ys ls
  | [], _ => ⟨[], .nil⟩
  | (a, xs) :: ys, h => by
    obtain ⟨ls, z⟩ := asL_of I ys fun p hp => h p (List.mem_cons_of_mem _ hp)
    obtain ⟨its, r, pl, _⟩ := I.list (h (a, xs) List.mem_cons_self)
    exact ⟨(a, its.toArray) :: ls, .cons (by simpa using r) pl.isList z⟩
end
theorem AsL.len {h : Heap} : ∀ {ys ls}, AsL h ys ls → ls.length = ys.length
  | _, _, .nil => rfl
  | _, _, .cons _ _ z => congrArg Nat.succ z.len
theorem AsL.isL {h : Heap} : ∀ {ys ls}, AsL h ys ls → ∀ p ∈ ls, h.IsList p.1 p.2
  | _, _, .nil, p, hp => absurd hp (by simp)
  | _, _, .cons _ b z, p, hp => by
    rcases List.mem_cons.mp hp with rfl | q
    · exact b
    · exact z.isL p q
theorem AsL.get {h : Heap} : ∀ {ys ls}, AsL h ys ls → ∀ (m : Nat) (p : Addr × Array Value), ls[m]? = some p → ∃ q, ys[m]? = some q ∧ p.1 = q.1 ∧ Vals q.2 p.2.toList ∧ h.IsList p.1 p.2
  | _, _, .nil, m, p, e => by simp at e
  | _, _, .cons (a := a) (xs := xs) r b z, 0, p, e => by
    cases e
    exact ⟨(a, xs), rfl, rfl, r, b⟩
  | _, _, .cons r b z, m + 1, p, e => z.get m p e
theorem AsL.size {h : Heap} {n : Nat} {ys ls} (z : AsL h ys ls) (hn : ∀ p ∈ ys, p.2.length = n) : ∀ p ∈ ls, p.2.size = n := fun p hp => by
  obtain ⟨m, hm, e⟩ := List.mem_iff_getElem.mp hp
  obtain ⟨q, h1, h2, h3, _⟩ := z.get m p (by rw [List.getElem?_eq_getElem hm, e])
  have := hn q (List.mem_of_getElem? h1)
  rw [← this, h3.length, Array.length_toList]
theorem AsL.vals {h : Heap} {n k : Nat} (hk : k < n) : ∀ {ys ls}, AsL h ys ls → (∀ p ∈ ys, p.2.length = n) → Vals (ys.map fun p => p.2.getD k .non) (valsAt ls k)
  | _, _, .nil, _ => .nil
  | _, _, .cons (a := a) (xs := xs) (its := its) r _ z, hn => by
    have e : xs.length = n := hn (a, xs) List.mem_cons_self
    have lt : k < xs.length := by omega
    obtain ⟨u, hu, ru⟩ := r.get (List.getElem?_eq_getElem lt)
    refine .cons ?_ (AsL.vals hk z fun p hp => hn p (List.mem_cons_of_mem _ hp))
    have e1 : xs.getD k .non = xs[k] := by rw [List.getD_eq_getElem?_getD, List.getElem?_eq_getElem lt]; rfl
    have e2 : its.getD k .none = u := by
      rw [Array.getElem?_toList] at hu
      rw [Array.getD_eq_getD_getElem?, hu]
      rfl
    show RelV (xs.getD k .non) (its.getD k .none)
    rw [e1, e2]
    exact ru
/-- the state of a zip's walk, without the lists -/
structure ZIt (b : Nat) (ys : List (Addr × List V)) (k : Nat) (h : Heap) : Prop where
  z : ∃ f0 f, (f0 = .none ∨ ∃ T : Nat, f0 = rawInt T) ∧ ZOf h (b + ys.length + 2) (b + ys.length) (b + ys.length + 1) f0 f
  ti : TupL h (b + ys.length) (refsAt b ys.length)
  to_ : ∃ old, TupL h (b + ys.length + 1) old ∧ old.length = ys.length
  it : ∀ (m : Nat) (p : Addr × List V), ys[m]? = some p → h.IsListIter (b + m) p.1 k
theorem ZIt.at {b k : Nat} {ys : List (Addr × List V)} {ls : List (Addr × Array Value)} {h : Heap} (Z : ZIt b ys k h) (a : AsL h ys ls) : ZAt b k ls h := by
  obtain ⟨z, ti, to_, it⟩ := Z
  refine ⟨by rw [a.len]; exact z, by rw [a.len]; exact ti, by rw [a.len]; exact to_, fun m p e => ?_⟩
  obtain ⟨q, h1, h2, h3, h4⟩ := a.get m p e
  rw [if_neg (Nat.not_lt_zero m), h2]
  exact ⟨it m q h1, h2 ▸ h4⟩
theorem ZIt.of {b k : Nat} {ys : List (Addr × List V)} {ls : List (Addr × Array Value)} {h h0 : Heap} (Z : ZAt b k ls h) (a : AsL h0 ys ls) : ZIt b ys k h := by
  obtain ⟨z, ti, to_, sd⟩ := Z
  rw [a.len] at z ti to_
  refine ⟨z, ti, to_, fun m q e => ?_⟩
  have ml : m < ls.length := by rw [a.len]; exact (List.getElem?_eq_some_iff.mp e).1
  obtain ⟨q', h1, h2, h3, h4⟩ := a.get m _ (List.getElem?_eq_getElem ml)
  rw [e] at h1
  cases h1
  have z := (sd m _ (List.getElem?_eq_getElem ml)).1
  rw [if_neg (Nat.not_lt_zero m), h2] at z
  exact z
/-- the walk's new objects -/
def fpZ (b : Nat) (n : Nat) : List Addr := List.range' b (n + 3)
theorem mem_fpZ {b n c : Nat} : c ∈ fpZ b n ↔ b ≤ c ∧ c < b + n + 3 := by
  unfold fpZ
  rw [List.mem_range'_1]
  omega
theorem fz_split {b n c : Nat} (h1 : b ≤ c) (q : c < b + n) : ∃ m, m < n ∧ c = b + m := ⟨c - b, by omega, by omega⟩
theorem fz_three {b n c : Nat} (h1 : b + n ≤ c) (h2 : c < b + n + 3) : c = b + n ∨ c = b + n + 1 ∨ c = b + n + 2 := by omega
theorem fz_out {b n n' c : Nat} (e : n' = n) (nb : ¬ (b ≤ c ∧ c < b + n + 3)) : c < b ∨ b + n' + 3 ≤ c := by omega
theorem fz_lt {b n n' c z : Nat} (e : n' = n) (h : c < b + n + 3) (h2 : b + n' + 3 ≤ z) : c < z := by omega
def ItzN (n : Nat) (K : PySem.W.Frag) (ys : List (Addr × List V)) : It :=
  ⟨fun i H => i < n ∧ ∀ p ∈ ys, SqL K H p.1 p.2, fun i H v H' => ∃ T, v = .ref T ∧ H T = none ∧ H' = upd H T (.tup (ys.map fun p => p.2.getD i .non)), fun i H => i = n ∧ ∀ p ∈ ys, SqL K H p.1 p.2⟩
theorem turn_zipN {P : Program} {w : World} {K : PySem.W.Frag} {x : Str} {tpos : Pos} {b n : Nat} {ys : List (Addr × List V)} (lo : ∀ p ∈ ys, (p.1 : Nat) < b) (n1 : 0 < ys.length) (n6 : ys.length ≤ 6) (hn : ∀ p ∈ ys, p.2.length = n) :
    Turn P w K (.Name x tpos) (ItzN n K ys) (fpZ b ys.length) (b + ys.length + 2) (fun i h => ZIt b ys i h) where
  mem := mem_fpZ.mpr ⟨by omega, by omega⟩
  obj := fun i h Z c hc => by
    obtain ⟨h1, h2⟩ := mem_fpZ.mp hc
    obtain ⟨⟨f0, f, _, z⟩, ti, ⟨old, to_, _⟩, it⟩ := Z
    rcases Nat.lt_or_ge c (b + ys.length) with q | q
    · obtain ⟨m, ml, rfl⟩ := fz_split h1 q
      obtain ⟨o, e, _, d⟩ := it m _ (List.getElem?_eq_getElem ml)
      exact ⟨o, e, fun v q => by rw [d] at q; cases q⟩
    · rcases fz_three q h2 with rfl | rfl | rfl
      · exact ⟨_, ti, fun _ q => nomatch q⟩
      · exact ⟨_, to_, fun _ q => nomatch q⟩
      · exact ⟨_, z, fun _ q => nomatch q⟩
  keep := fun i h h' Z k => by
    obtain ⟨⟨f0, f, e0, z⟩, ti, ⟨old, to_, ol⟩, it⟩ := Z
    refine ⟨⟨f0, f, e0, k _ (mem_fpZ.mpr ⟨by omega, by omega⟩) _ z⟩, k _ (mem_fpZ.mpr ⟨by omega, by omega⟩) _ ti, ⟨old, k _ (mem_fpZ.mpr ⟨by omega, by omega⟩) _ to_, ol⟩, fun m p e => ?_⟩
    have ml := (List.getElem?_eq_some_iff.mp e).1
    exact (it m p e).at fun o q => k _ (mem_fpZ.mpr ⟨by omega, by omega⟩) o q
  item := by
    intro X hP hw hK hc i pins s σ H E I hf Z ⟨l1, g1⟩
    subst hP hw hK
    obtain ⟨ls, a⟩ := asL_of I ys g1
    have hz := Z.at a
    have ll := a.len
    have L : Low b ls := ⟨fun p hp => by
      obtain ⟨m, hm, e⟩ := List.mem_iff_getElem.mp hp
      obtain ⟨q, h1, h2, _⟩ := a.get m p (by rw [List.getElem?_eq_getElem hm, e])
      rw [h2]
      exact lo q (List.mem_of_getElem? h1)⟩
    have rl := pyNext_zipN_item (prog := X.prog) (w := X.w) (A := X.A) (E := E) (s := s) (k := i) L (by omega) (by omega) hz (fun p hp => by rw [a.size hn p hp]; exact l1) (Q := fun r s1 => ∃ u, r = some u ∧
      wpAny (model X.prog X.w) X.A (letOwnedTupleGo (.Name x tpos) (.ref (b + ys.length + 2)) u) (fun _ s2 => ∃ x H', Inv X pins σ H' s2 ∧ RelV x u ∧ (ItzN n X.K ys).yld i H x H' ∧ ZIt b ys (i + 1) s2.heap ∧ ∀ b' ∈ fpZ b ys.length, H' b' = none) E s1) fun h' tk Z' tup sz kp => ?_
    · rw [ll] at rl
      exact rl
    · refine ⟨_, rfl, ?_⟩
      have new : ObjOk X.prog X.w (upd H s.heap.objs.size (.tup (ys.map fun p => p.2.getD i .non))) h' s.heap.objs.size (.tup (ys.map fun p => p.2.getD i .non)) :=
        ⟨by rw [List.length_map]; exact Nat.le_trans n6 (by decide), _, a.vals l1 hn, ⟨_, tup, rfl, _, rfl⟩⟩
      have J : Inv X pins σ (upd H s.heap.objs.size (.tup (ys.map fun p => p.2.getD i .non))) { s with heap := h', toks := tk } :=
        I.turnedNew (t' := tk) (ch := fpZ b ys.length) (fun c o nb q => kp c o (fz_out ll (fun z => nb (mem_fpZ.mpr z))) q) hf (Nat.le_refl _) new
      refine wpAny_pure ⟨.ref s.heap.objs.size, _, J, rfl, ⟨_, rfl, I.hok.fresh (Nat.le_refl _), rfl⟩, ZIt.of Z' a, fun c hcm => ?_⟩
      have lt : c < s.heap.objs.size := fz_lt ll (mem_fpZ.mp hcm).2 hz.lt
      rw [upd_ne (Nat.ne_of_lt lt)]
      exact (hf c hcm).1
  done := by
    intro X hP hw hK hc i pins s σ H E I hf Z ⟨l1, g1⟩
    subst hP hw hK
    obtain ⟨ls, a⟩ := asL_of I ys g1
    have hz := Z.at a
    have ll := a.len
    have L : Low b ls := ⟨fun p hp => by
      obtain ⟨m, hm, e⟩ := List.mem_iff_getElem.mp hp
      obtain ⟨q, h1, h2, _⟩ := a.get m p (by rw [List.getElem?_eq_getElem hm, e])
      rw [h2]
      exact lo q (List.mem_of_getElem? h1)⟩
    have rl := pyNext_zipN_end (prog := X.prog) (w := X.w) (A := X.A) (E := E) (s := s) (k := i) (I.ok.hd hc) L (by omega) hz (fun p hp => by rw [a.size hn p (List.mem_of_getElem? hp)]; exact l1) (Q := fun r s1 => r = none ∧ Inv X pins σ H s1) fun h' tk kp =>
      ⟨rfl, I.turnedL (t' := tk) (ch := fpZ b ys.length) (fun c o nb q => kp c o (fz_out ll (fun z => nb (mem_fpZ.mpr z))) q) hf⟩
    rw [ll] at rl
    exact rl
  self := fun A i s Q E Z h => by
    obtain ⟨f0, f, _, z⟩ := Z.z
    have hT : s.TypeIs (.ref (b + ys.length + 2)) "zip" := ⟨_, z, rfl⟩
    refine wpAny_pyIter_slot hT F.slot_zip_iter (wpAny_call_entry F.slot_zip_iter hT F.entry_zip_iter ?_ (F.args_zip_iter_1 _))
    show wpAny _ _ (ret (.ref (b + ys.length + 2))) _ _ s
    exact wpAny_pure ⟨_, rfl, "zip", _, hT, F.slot_zip_next.lookup, h⟩
end L2

/-! for x in zip(*xs) -/
namespace L2
open PySem PySem.Spec PyProof.Rows
theorem lrefs_of {h : Heap} : ∀ {ys : List (Addr × List V)} {ls : List (Addr × Array Value)} {us : List Value}, AsL h ys ls → Vals (ys.map fun p => V.ref p.1) us → us = lrefs ls
  | _, _, _, .nil, .nil => rfl
  | _, _, _, .cons _ _ z, .cons e r => by
    rw [lrefs_of z r]
    exact congrArg (· :: _) e
def iZipS (K : PySem.W.Frag) (te : TE) : TI := fun σ H R => te σ H fun y H1 => ∃ (a : Addr) (n : Nat) (ys : List (Addr × List V)), y = .ref a ∧ (SqT K H1 a (ys.map fun p => V.ref p.1) ∨ SqL K H1 a (ys.map fun p => V.ref p.1)) ∧ 0 < ys.length ∧ ys.length ≤ 6 ∧ (∀ p ∈ ys, p.2.length = n) ∧
  (∀ p ∈ ys, SqL K H1 p.1 p.2) ∧ R (ItzN n K ys) H1
theorem pi_zipS {X : Cx} {e : Expr} {te : TE} {x : Str} {p sp pos tpos : Pos} (hg : Gl X "zip") (hm : X.mg "zip" = none) (he : PE X e te) (hs : starEach [.Starred e sp] X.env = [(true, eval e X.env)] := by rfl) :
    PI X (.Name x tpos) (.Call (.Name "zip" p) [.Starred e sp] [] pos) (iZipS X.K te) := by
  refine ⟨fun pins s σ H R I h => Call_ (ld_blt I hg hm PyProof.Rows.boot_zip ?_)⟩
  rw [hs]
  refine callWith_typeS rfl (PySem.W.ks_lone (thn (he.run pins s σ H _ I h) fun v s1 ⟨y, H1, I1, ry, a, n, ys, ey, hx, n1, n6, hn, hl, q⟩ => ?_))
  subst ey
  obtain rfl : v = Value.ref a := ry
  refine StX.star_any I1 hx fun us s2 I2 rv => ?_
  obtain ⟨ls, al⟩ := asL_of I2 ys hl
  have ll := al.len
  rw [lrefs_of al rv]
  refine call_zipN (by omega) (by omega) al.isL fun h' Z sz kp => ?_
  obtain ⟨f0, f, _, hz⟩ := Z.z
  have hT : Shared.TypeIs { s2 with heap := h' } (.ref (s2.heap.objs.size + ls.length + 2)) "zip" := ⟨_, hz, rfl⟩
  refine wpAny_pyIter_slot hT F.slot_zip_iter (wpAny_call_entry F.slot_zip_iter hT F.entry_zip_iter ?_ (F.args_zip_iter_1 _))
  show wpAny _ _ (ret (.ref (s2.heap.objs.size + ls.length + 2))) _ _ _
  refine wpAny_pure ⟨_, rfl, "zip", _, hT, F.slot_zip_next.lookup, ?_⟩
  have I3 : Inv X pins σ H1 { s2 with heap := h' } := I2.kept (t' := s2.toks) kp
  have lo : ∀ p ∈ ys, (p.1 : Nat) < s2.heap.objs.size := fun p hp => by
    obtain ⟨its, _, pl, _⟩ := I2.list (hl p hp)
    obtain ⟨o, ho, _⟩ := pl.isList
    exact Heap.lt_size ho
  refine ⟨_, fpZ s2.heap.objs.size ys.length, _, _, H1, by rw [ll], I3, turn_zipN lo n1 n6 hn, ZIt.of Z al, fun c hc => ?_, q⟩
  have le : s2.heap.objs.size ≤ c := (mem_fpZ.mp hc).1
  exact I2.fpOk le (I2.hok.fresh le)
end L2

/-! {t: v} with a tuple for its key; tuple * 1 -/
namespace L2
open PySem PySem.Spec PyProof.Rows
/-- {k: v}, k a tuple of numbers and texts -/
def tDispT (tk tv : TE) : TE := fun σ H Q => ∀ p, H p = none → tk σ (upd H p (.dT [])) fun x H1 => tv σ H1 fun y H2 => H2 p = some (.dT []) ∧ ∃ (b : Addr) (k : List Key), x = .ref b ∧ H2 b = some (.tup (k.map kV)) ∧ Q (.ref p) (upd H2 p (.dT [(k, y)]))
theorem pe_dispT {X : Cx} {pos : Pos} {ke ve : Expr} {tk tv : TE} (hu : X.A.units < cLine) (hk : PE X ke tk) (hv : PE X ve tv) : PE X (.Dict [some ke] [ve] pos) (tDispT tk tv) := by
  refine ⟨fun pins s σ H Q I q => ?_⟩
  have hn := I.hok.fresh (Nat.le_refl s.heap.objs.size)
  have I1 := I.laid (a := s.heap.objs.size) (o := .dT []) (h' := s.heap.push { cls := .type "dict", data := .dict #[] }) (t' := s.toks) (fun _ _ q => Heap.get?_push_of_some _ q) (Nat.le_refl _) (dt_empty s.heap I.big)
  rw [arm_eval_Dict, zip_pairTrees [some ke] [ve] X.env pos rfl rfl, dictDisplay_pairs _ (by rw [pairTrees]; exact List.cons_ne_nil _ _) (by rw [pairTrees_length _ _ _ _ rfl rfl]; show 1 < 17; decide)]
  refine wpAny_bind (wpAny_standAt (wpAny_bind (wpAny_subDictH (knd := tupleKind (mixKind X.prog X.w)) (Q := fun d s' => wpAny (model X.prog X.w) X.A (pure (Value.ref d)) _ _ s') hu (by rw [pairTrees_length _ _ _ _ rfl rfl]; show 1 ≤ 15; decide) ?_)))
  refine pairTrees_cons_walk (thn (hk.run pins _ σ _ _ I1 (q _ hn)) fun u s1 ⟨x, H1, I2, rx, q1⟩ => thn (hv.run pins s1 σ H1 _ I2 q1) fun w2 s2 ⟨y, H2, I3, ry, e, b, k, ex, eb, q2⟩ => pairTrees_nil_walk ?_)
  subst ex
  obtain rfl : u = Value.ref b := rx
  obtain ⟨z, hd, xs, rel, dd⟩ := dt_of I3.hok e
  cases rel
  refine ⟨[(k, b, w2)], ⟨rfl, rfl, key_of I3.hok eb, True.intro⟩, dd, fun h' tk' dd' hs => wpAny_pure ⟨.ref s.heap.objs.size, _, ?_, rfl, q2⟩⟩
  obtain ⟨q0, es, ep, hq, h2, h3, h4, _, h5⟩ := dd'
  have ne : b ≠ s.heap.objs.size := fun z => by
    rw [z, e] at eb
    cases eb
  refine d_write I3 (by rw [e]; exact True.intro) hs ⟨q0, hq⟩ ⟨by show 1 ≤ sizeLine; decide, hd, [(k, b, w2)], .cons ⟨rfl, by rw [upd_ne ne]; exact eb, ry⟩ .nil, q0, es, ep, hq, h2, h3, h4, h5⟩
/-- d[k] = v by a comprehension, k a tuple -/
theorem d_dictSetT {X : Cx} {pins : List (Addr × Obj)} {σ : St} {H : Hp} {s : Shared} {E : Value → Shared → Prop} {D b : Addr} {kvs : List (List Key × V)} {k : List Key} {v : V} {r : Value} {Q : Unit → Shared → Prop} (hu : X.A.units < cLine) (I : Inv X pins σ H s) (hD : H D = some (.dT kvs)) (hz : kvs.length < sizeLine)
    (eb : H b = some (.tup (k.map kV))) (rv : RelV v r) (h : ∀ s', Inv X pins σ (upd H D (.dT (putK kvs k v))) s' → Q () s') : wpAny (model X.prog X.w) X.A (dictSet D (.ref b) r) Q E s := by
  obtain ⟨z, hd, xs, rel, dd⟩ := dt_of I.hok hD
  have hzx : xs.length ≤ sizeLine := by rw [← Paired.length rel]; exact z
  have hl : (putK kvs k v).length ≤ sizeLine := by have := length_putK kvs k v; omega
  refine wpAny_dictSet_heap (hsz := hzx) (knd := tupleKind (mixKind X.prog X.w)) hu (key_of I.hok eb) dd fun h' dd' hs => h _ ?_
  obtain ⟨q, es, ep, hq, h2, h3, h4, _, h5⟩ := dd'
  refine d_write I (by rw [hD]; exact True.intro) hs ⟨q, hq⟩ ⟨hl, hd, _, (rel.put k eb rv).keeps fun c ys ec => ?_, q, es, ep, hq, h2, h3, h4, h5⟩
  rw [upd_ne (ne_of ec hD (fun z => nomatch z))]
  exact ec
/-! tuple * 1: the tuple itself -/
theorem tuple_mulW1 (l : Addr) (items : Array Value) (n : Nat) (dd : Option Addr) (sl : Array (Option Value)) (u : Tok) :
    Meets (Builtin.«tuple.__mul__» ⟨[.ref l, .int 1 u], []⟩) (fun _ R s => s.heap.get? l = some { cls := .type "tuple", dict := dd, data := .seq items n, slots := sl } ∧ R (.ok (.ret (Value.ref l))) s) :=
  .of_wp fun prog w A R s h => by
    obtain ⟨hp, g, d, tk, os⟩ := s
    obtain ⟨hl, h⟩ := h
    have f1 := AutoSeq1.idx_int
    wp_walk using wpAny_loadPart' hl
    exact ⟨_, rfl, h⟩
/-- t * k, k at least 1 -/
def rRepTA (K : PySem.W.Frag) : R2 := fun x y H Q => ∃ l k xs, x = .ref l ∧ y = .int k ∧ SqT K H l xs ∧ xs ≠ [] ∧ 1 ≤ k ∧ k ≤ 1000 ∧ xs.length ≤ 1000 ∧ (k = 1 → Q (.ref l) H) ∧ (2 ≤ k → ∀ p, H p = none → Q (.ref p) (upd H p (.tup (List.replicate k.toNat xs).flatten)))
theorem op_repTA {X : Cx} : OpR X (binaryOp .Mult) (rRepTA X.K) := by
  intro pins s σ H x y v u Q I rx ry h
  obtain ⟨l, k, xs, rfl, rfl, hT, hne, h1, h2, hz, q1, q2⟩ := h
  by_cases k1 : k = 1
  · subst k1
    cases rx
    obtain ⟨t, rfl⟩ := ry
    obtain ⟨its, r, ⟨⟨cls, dd, data, sl⟩, ho, hc, n, hd⟩, hs⟩ := I.tuple hT
    simp only at hc hd
    subst hc hd
    exact wpAny_binaryOp_repeat_ref (T := "tuple") (U := "int") (by decide) ⟨_, ho, rfl⟩ (fun s' => typeIs_int s' 1 t) noFill_tuple_mul F.fills_int_mul F.slot_int_rmul repeat_tuple F.slot_int_index.lookup
      (call_meets F.slot_int_rmul (typeIs_int s 1 t) F.entry_int_rmul (F.args_int_rmul_2 _ _) (int_rmul_tuple 1 t l its.toArray n dd sl)
        ⟨ho, rfl, ⟨_, ho, rfl⟩, call_meets F.slot_tuple_mul ⟨_, ho, rfl⟩ F.entry_tuple_mul (F.args_tuple_mul_2 _ _) (tuple_mulW1 l its.toArray n dd sl t) ⟨ho, ⟨.ref l, _, I, rfl, q1 rfl⟩⟩⟩)
  · exact op_repT pins s σ H _ _ v u Q I rx ry ⟨l, k, xs, rfl, rfl, hT, hne, by omega, h2, hz, q2 (by omega)⟩
end L2

/-! dict comprehensions whose stores are told by a relation -/
namespace L2
open PySem PySem.Spec PyProof.Rows
/-- a store: the dict, the key, the value, the heap ahead, the heap behind -/
abbrev PutR := Addr → V → V → Hp → Hp → Prop
def Puts (X : Cx) (put : PutR) : Prop := ∀ (pins : List (Addr × Obj)) (σ : St) (H H' : Hp) (s : Shared) (D : Addr) (y z : V) (u r : Value) (E : Value → Shared → Prop) (Q : Unit → Shared → Prop), Inv X pins σ H s → put D y z H H' → RelV y u → RelV z r → (∀ s', Inv X pins σ H' s' → Q () s') →
  wpAny (model X.prog X.w) X.A (dictSet D u r) Q E s
/-- keys that are tuples of numbers and texts -/
def putT : PutR := fun D y z H H' => ∃ (kvs : List (List Key × V)) (k : List Key) (b : Addr), y = .ref b ∧ H b = some (.tup (k.map kV)) ∧ H D = some (.dT kvs) ∧ kvs.length < sizeLine ∧ H' = upd H D (.dT (putK kvs k z))
theorem puts_T {X : Cx} (hu : X.A.units < cLine) : Puts X putT := by
  rintro pins σ H H' s D y z u r E Q I ⟨kvs, k, b, rfl, eb, eD, hz, rfl⟩ ry rz h
  obtain rfl : u = Value.ref b := ry
  exact d_dictSetT hu I eD hz eb rz h
/-- a turn of the walk, told of the dict at D -/
def dcTurn (J : It) (g : TG) (tt : TT) (tk tv : TE) (put : PutR) (vs : List Nat) (σ : St) (D : Addr) (Q : VK) (W : Nat → Nat → Hp → Prop) : Prop := ∀ i m H, W i m H →
  (J.stop i H ∧ Q (.ref D) H) ∨ (J.go i H ∧ ∃ Nx : Hp → Prop, (∀ H', Nx H' → ∃ m', m' < m ∧ W (i + 1) m' H') ∧ ∀ x H', J.yld i H x H' → g x (wipe σ vs) H' fun σ2 H2 => wipe σ2 vs = wipe σ vs ∧ tt σ2 H2 fun b H3 =>
    if b = true then tk σ2 H3 fun y H4 => tv σ2 H4 fun z H5 => ∃ H6, put D y z H5 H6 ∧ Nx H6 else Nx H3)
def tDcG (wi : TI) (g : TG) (tt : TT) (tk tv : TE) (new : HO) (put : PutR) (vs : List Nat) : TE := fun σ H Q => wi σ H fun J H1 => ∀ D, H1 D = none → ∃ W : Nat → Nat → Hp → Prop, (∃ m, W 0 m (upd H1 D new)) ∧ dcTurn J g tt tk tv put vs σ D Q W
section
variable {X Y : Cx} {kx vx tg iter : Expr} {ifs : List Expr} {g : TG} {tt : TT} {tk tv : TE} {put : PutR}
/-- the walk's objects stand untouched: Y the block's context, fp its own list -/
theorem blk_fp {fp : List Addr} {σ : St} {H : Hp} {s : Shared} (hex : Y.ex = fp) (hpn : Y.pn = []) (I : Inv Y [] σ H s) (hn : ∀ b ∈ fp, H b = none) : ∀ b ∈ fp, FpOk Y [] H b := fun b hb => by
  subst hex
  exact ⟨hn b hb, (I.ok.exf b hb).1, I.ok.exfs b hb, .inl hb, fun x c e => (I.ok.exf b hb).2 x c e, fun p hp => by rw [hpn] at hp; exact absurd hp (by simp)⟩
/-- the loop of the block -/
theorem dcg_loop {fp : List Addr} {it D : Addr} {J : It} {tn : Nat → Heap → Prop} {vs : List Nat} {σ : St} {Q : VK} {W : Nat → Nat → Hp → Prop} {R : Result → Shared → Prop} {scope : Scope} {pos : Pos} {s : Shared} {H : Hp} {m0 : Nat}
    (hc : Y.calm = true) (hex : Y.ex = fp) (hpn : Y.pn = []) (T : Turn Y.prog Y.w Y.K tg J fp it tn) (hg : PG Y tg g) (ht : PTs Y ifs tt) (hk : PE Y kx tk) (hv : PE Y vx tv) (hput : Puts Y put) (hw : dcTurn J g tt tk tv put vs σ D Q W)
    (hR : ∀ s' H', Inv Y [] (wipe σ vs) H' s' → Q (.ref D) H' → R (.ok .next) s') (hE : ∀ e s', Y.xe e s' → notedBy (model Y.prog Y.w) Y.A Y.env (fun e s' => R (.error e) s') e s')
    (I : Inv Y [] (wipe σ vs) H s) (st : tn 0 s.heap) (hn : ∀ b ∈ fp, H b = none) (w0 : W 0 m0 H) : codeAny (model Y.prog Y.w) Y.A (.compLoop (.DictComp kx vx [⟨tg, iter, ifs, 0⟩] scope pos) 0 (.ref it) (.ref D) Y.env) R s := by
  refine compLoop_anyD (fun n s' => ∃ i H', Inv Y [] (wipe σ vs) H' s' ∧ tn i s'.heap ∧ (∀ b ∈ fp, H' b = none) ∧ W i n H') ?_ m0 ⟨0, H, I, st, hn, w0⟩
  rintro n s1 ⟨i, H1, I1, st1, n1, w1⟩
  have f1 := blk_fp hex hpn I1 n1
  rcases hw i n H1 w1 with ⟨stop, q⟩ | ⟨go, Nx, less, step⟩
  · refine thnF (T.done Y rfl rfl rfl hc i [] s1 _ H1 (fun _ _ => False) I1 f1 st1 stop) fun r s2 ⟨hr, I2⟩ => ?_
    subst hr
    exact hR s2 H1 I2 q
  · refine thnF (T.item Y rfl rfl rfl hc i [] s1 _ H1 (fun _ _ => False) I1 f1 st1 go) fun r s2 ⟨u, hr, h2⟩ => ?_
    subst hr
    refine thnF h2 fun _ s3 ⟨x, H3, I3, r3, y3, st3, n3⟩ => ?_
    have P3 := I3.pinned (blk_fp hex hpn I3 n3) (T.obj _ _ st3)
    -- what the turn leaves behind
    have back : ∀ {σ' : St} {s' : Shared} {H' : Hp}, wipe σ' vs = wipe σ vs → Inv Y ([] ++ pinsAt fp s3.heap) σ' H' s' → Nx H' → ∃ m, m < n ∧ ∃ i H', Inv Y [] (wipe σ vs) H' s' ∧ tn i s'.heap ∧ (∀ b ∈ fp, H' b = none) ∧ W i m H' := by
      intro σ' s' H' ew J' nx
      obtain ⟨m', lt, w'⟩ := less H' nx
      have at_ : ∀ b ∈ fp, ∀ o, s3.heap.get? b = some o → s'.heap.get? b = some o ∧ H' b = none := fun b hb o e => by
        have z := J'.pin (b, o) (List.mem_append_right _ (List.mem_append_right _ (mem_pinsAt hb e)))
        exact ⟨z.1, z.2.1⟩
      refine ⟨m', lt, i + 1, H', ?_, T.keep _ _ _ st3 fun b hb o e => (at_ b hb o e).1, fun b hb => ?_, w'⟩
      · refine (J'.unpinned (pins := [])).weak (by rw [← ew, wipe_length]) fun j v e => ?_
        rw [← ew] at e
        exact (wipe_some e).1
      · obtain ⟨o, e, _⟩ := T.obj _ _ st3 b hb
        exact (at_ b hb o e).2
    refine wpAny_mono (hg.run _ s3 _ H3 x u _ P3 r3 (step x H3 y3)) (fun _ s4 ⟨σ4, H4, I4, ew, q4⟩ => ?_) hE
    refine wpAny_mono (ht.run _ s4 σ4 H4 _ I4 q4) (fun b s5 ⟨H5, I5, q5⟩ => ?_) hE
    cases b with
    | false =>
      rw [if_neg Bool.false_ne_true] at q5 ⊢
      exact back ew I5 q5
    | true =>
      rw [if_pos rfl] at q5 ⊢
      refine wpAny_mono (hk.run _ s5 σ4 H5 _ I5 q5) (fun kv s6 ⟨y, H6, I6, r6, q6⟩ => ?_) hE
      refine wpAny_mono (hv.run _ s6 σ4 H6 _ I6 q6) (fun vv s7 ⟨z, H7, I7, r7, H8, hp, nx⟩ => ?_) hE
      exact hput _ σ4 H7 H8 s7 D y z kv vv _ _ I7 hp r6 r7 fun s8 I8 => back ew I8 nx
end
section
variable {X : Cx} {kx vx tg iter : Expr} {ifs : List Expr} {g : TG} {tt : TT} {tk tv : TE} {put : PutR} {wi : TI} {scope : Scope} {own : List (Str × Nat)} {pos : Pos} {new : HO}
/-- {k: v for target in iter if ..} -/
theorem pe_dcG (hc : X.calm = true) (hN : X.N.Nodup) (hi : PI X tg iter wi) (ok : BlkOk X.N X.env.scope scope own) (hnew : ∀ (H : Hp) (h : Heap), sysModules < h.objs.size → ObjOk X.prog X.w H (h.push { cls := .type "dict", data := .dict #[] }) h.objs.size new)
    (hB : ∀ (s : Shared) (H : Hp) (C : Addr) (cl : List (Str × Addr)) (fp : List Addr), PG (X.blk s H scope (compEnvC scope cl C X.env) fp) tg g ∧ PTs (X.blk s H scope (compEnvC scope cl C X.env) fp) ifs tt ∧ PE (X.blk s H scope (compEnvC scope cl C X.env) fp) kx tk ∧
      PE (X.blk s H scope (compEnvC scope cl C X.env) fp) vx tv ∧ Puts (X.blk s H scope (compEnvC scope cl C X.env) fp) put) (hs : ∀ x, foldedSetIterable iter X.env x = pure x := by intro _; rfl) :
    PE X (.DictComp kx vx [⟨tg, iter, ifs, 0⟩] scope pos) (tDcG wi g tt tk tv new put (own.map (·.2))) := by
  refine ⟨fun pins s σ H Q I h => ?_⟩
  rw [arm_eval_DictComp]
  have cells : ∀ y ∈ scope.names, y.2 = .free → ∃ c, X.env.cells.lookup y.1 = some c := fun y hy e => (ok.free y hy e).elim (fun k => I.ok.has _ (.inl k)) fun k => I.ok.has _ (.inr k)
  refine wpAny_comprehension_free rfl hs (closure_ok cells) ok.kind (fun y hy e => by rw [ok.uniq y hy, e]) (thn (hi.run pins s σ H _ I h) fun xv s1 hx => thn hx fun itv s2 ⟨it, fp, tn, J, H2, e, I2, T, st2, f2, q⟩ => ?_)
  subst e
  refine wpAny_newObj_type (newEnv_comp ?_)
  have fresh := I2.hok.fresh (Nat.le_refl s2.heap.objs.size)
  obtain ⟨W, ⟨m0, w0⟩, turn⟩ := q s2.heap.objs.size fresh
  have up : ∀ (b : Addr) (o : Obj), s2.heap.get? b = some o → (s2.heap.push { cls := .type "dict", data := .dict #[] }).get? b = some o := fun b o e => Heap.get?_push_of_some _ e
  have I3 := I2.laid (a := s2.heap.objs.size) (o := new) (h' := s2.heap.push { cls := .type "dict", data := .dict #[] }) (t' := s2.toks) up (Nat.le_refl _) (hnew _ s2.heap I2.big)
  have low : ∀ b ∈ fp, (b : Nat) < s2.heap.objs.size := fun b hb => by
    obtain ⟨o, e, _⟩ := T.obj _ _ st2 b hb
    exact Heap.lt_size e
  have f3 : ∀ b ∈ fp, FpOk X pins (upd H2 s2.heap.objs.size new) b ∧ b < (s2.heap.push { cls := .type "dict", data := .dict #[] }).objs.size := fun b hb =>
    ⟨⟨by rw [upd_ne (Nat.ne_of_lt (low b hb))]; exact (f2 b hb).1, (f2 b hb).2⟩, by rw [Heap.size_push]; exact Nat.lt_succ_of_lt (low b hb)⟩
  have st3 : tn 0 (s2.heap.push { cls := .type "dict", data := .dict #[] }) := T.keep _ _ _ st2 fun b _ o e => up b o e
  have n3 : ∀ b ∈ fp, (upd H2 s2.heap.objs.size new) b = none := fun b hb => (f3 b hb).1.1
  generalize upd H2 s2.heap.objs.size new = H3 at I3 f3 w0 n3
  generalize hq3 : ({ s2 with heap := s2.heap.push { cls := .type "dict", data := .dict #[] } } : Shared) = s3
  have e3 : s3.heap = s2.heap.push { cls := .type "dict", data := .dict #[] } := by rw [← hq3]
  have e3' : ({ s2 with heap := s2.heap.push { cls := .type "dict", data := .dict #[] }, toks := s2.toks } : Shared) = s3 := hq3
  rw [e3'] at I3
  rw [← e3] at f3 st3
  have I4 := block_start I3 ok hN f3
  have hb := hB s3 H3 s3.heap.objs.size (cellsFrom (s3.heap.objs.size + 1) scope.names (cloFrom X.env.cells scope.names [])) fp
  have st4 : tn 0 (pushCells (s3.heap.push { cls := .type "dict", data := .dict #[] }) scope.names) := T.keep _ _ _ st3 fun b _ o e => pushCells_keeps _ _ _ _ (Heap.get?_push_of_some _ e)
  show codeAny _ _ (.compStart (.DictComp kx vx [⟨tg, iter, ifs, 0⟩] scope pos) 0 (.ref it) (.ref s2.heap.objs.size) (compEnvC scope (cellsFrom (s3.heap.objs.size + 1) scope.names (cloFrom X.env.cells scope.names [])) s3.heap.objs.size X.env)) _ { s3 with heap := pushCells (s3.heap.push { cls := .type "dict", data := .dict #[] }) scope.names }
  have loop := dcg_loop (Y := X.blk s3 H3 scope (compEnvC scope (cellsFrom (s3.heap.objs.size + 1) scope.names (cloFrom X.env.cells scope.names [])) s3.heap.objs.size X.env) fp) (kx := kx) (vx := vx) (tg := tg) (iter := iter) (ifs := ifs) (scope := scope) (pos := pos)
    (R := compPost (model X.prog X.w) X.A X.xe none (EP X pins σ Q) (.ref s2.heap.objs.size) s3.heap.objs.size) hc rfl rfl T hb.1 hb.2.1 hb.2.2.1 hb.2.2.2.1 hb.2.2.2.2 turn (fun s' H' J' q' => ?_) (fun _ _ z => False.elim z) I4 st4 n3 w0
  · exact codeAny_compStart_dict loop (T.self X.A 0 _ _ _ st4 loop)
  · have back : Inv X pins σ H' s' := I3.call' (ch := fp) J'.os J'.base J'.hok J'.bare fun b hb => ⟨(f3 b hb).1.2.2.2.1, (f3 b hb).1.2.1, (f3 b hb).1.2.2.2.2.1, (f3 b hb).1.2.2.2.2.2⟩
    obtain ⟨m, hm, _⟩ := J'.loc
    obtain ⟨g0, g1, _, g3, g4, g5⟩ := I3.fpOk (H' := H') (Nat.le_refl s3.heap.objs.size) J'.free
    exact ⟨m, hm, fun h'' sb => ⟨.ref s2.heap.objs.size, H', back.turned (t' := s'.toks) (fun b o hb e => (sb.2 b hb).trans e) g0 g1 g3 g4 g5, rfl, q'⟩⟩
/-- keys that are tuples of numbers and texts -/
theorem pe_dcT (hc : X.calm = true) (hN : X.N.Nodup) (hu : X.A.units < cLine) (hi : PI X tg iter wi) (ok : BlkOk X.N X.env.scope scope own)
    (hg : ∀ (s : Shared) (H : Hp) (C : Addr) (cl : List (Str × Addr)) (fp : List Addr), PG (X.blk s H scope (compEnvC scope cl C X.env) fp) tg g) (ht : ∀ (s : Shared) (H : Hp) (C : Addr) (cl : List (Str × Addr)) (fp : List Addr), PTs (X.blk s H scope (compEnvC scope cl C X.env) fp) ifs tt)
    (hk : ∀ (s : Shared) (H : Hp) (C : Addr) (cl : List (Str × Addr)) (fp : List Addr), PE (X.blk s H scope (compEnvC scope cl C X.env) fp) kx tk) (hv : ∀ (s : Shared) (H : Hp) (C : Addr) (cl : List (Str × Addr)) (fp : List Addr), PE (X.blk s H scope (compEnvC scope cl C X.env) fp) vx tv)
    (hs : ∀ x, foldedSetIterable iter X.env x = pure x := by intro _; rfl) : PE X (.DictComp kx vx [⟨tg, iter, ifs, 0⟩] scope pos) (tDcG wi g tt tk tv (.dT []) putT (own.map (·.2))) :=
  pe_dcG hc hN hi ok (fun H h hb => dt_empty h hb) (fun s H C cl fp => ⟨hg s H C cl fp, ht s H C cl fp, hk s H C cl fp, hv s H C cl fp, puts_T hu⟩) hs
end
end L2

/-! min(xs, default=None) of a list of numbers -/
namespace L2
open PySem PySem.Spec PyProof.Rows PySem PySem.W 
theorem alike_ints (ns : List Int) : AlikeAll (ns.map .int) := ⟨fun x hx y hy => by
  obtain ⟨a, _, rfl⟩ := List.mem_map.mp hx
  obtain ⟨b, _, rfl⟩ := List.mem_map.mp hy
  rfl, fun x hx => by
  obtain ⟨a, _, rfl⟩ := List.mem_map.mp hx
  exact fun z => nomatch z⟩
theorem depth_ints : ∀ ns : List Int, PyData.depthAll (ns.map .int) = 0
  | [] => rfl
  | n :: ns => by
    show max 0 (PyData.depthAll (ns.map .int)) = 0
    rw [depth_ints ns]
    rfl
def rMinD (K : PySem.W.Frag) : List V → List V → Hp → VK → Prop := fun vs zs H Q => ∃ (a : Addr) (ns : List Int), vs = [V.ref a] ∧ zs = [.non] ∧ SqL K H a (ns.map V.int) ∧ (ns = [] → Q .non H) ∧ ∀ n r, ns = n :: r → Q (.int (r.foldl min n)) H
theorem cr_minD {X : Cx} (hc : X.calm = true) (hu : X.A.units + 1 < cLine) : CallRK X (.builtin "min") [Str.ofString "default"] (rMinD X.K) := by
  intro pins s σ H vs zs us ws Q I r rz h
  obtain ⟨a, ns, rfl, rfl, hs, q0, q1⟩ := h
  obtain ⟨its, rv, hl, _⟩ := I.list hs
  obtain rfl := Vals.ref1 r
  obtain ⟨w1, rfl, e1⟩ := vals1 rz
  obtain rfl : w1 = Value.none := e1
  have hi := rv.ints
  refine min_list_default (xs := ns.map .int) (as := []) (I.ok.hd hc) hl.isList (by simpa using hi.reads s.heap) (alike_ints ns) (by rw [depth_ints]; exact hu) (fun e h' tk hk => ⟨.non, H, I.kept hk, rfl, q0 (List.map_eq_nil_iff.mp e)⟩) fun y ys i v h' tk bs e hv rd hk => ?_
  cases ns with
  | nil => cases e
  | cons n r =>
    cases e
    rw [minD_ints] at rd
    cases rd with
    | int _ t => exact ⟨.int (r.foldl min n), H, I.kept hk, ⟨_, rfl⟩, q1 n r rfl⟩
end L2

/-! zip over a list and a tuple, lists, texts mixed -/
namespace L2
open PySem PySem.Spec PyProof.Rows
theorem draws_lst {P : Program} {w : World} {A : Around} (hh : A.handled = none) {i b : Addr} (hne : b ≠ i) (ys : List V) :
    Draws P w A i [i, b] ys.length (fun k v => ∃ y, ys[k]? = some y ∧ RelV y v) (fun k h => h.IsListIter i b k ∧ ∃ its : List Value, Vals ys its ∧ h.IsList b its.toArray) where
  live := fun _ _ st => let ⟨o, ho, _⟩ := st.1; ⟨o, ho⟩
  frame := fun _ _ _ st hk => ⟨st.1.at fun o e => hk i (by simp) o e, let ⟨its, rv, p⟩ := st.2; ⟨its, rv, p.at fun o e => hk b (by simp) o e⟩⟩
  item := fun k s Q E hi ⟨s1, its, rv, p⟩ hQ => by
    have el : its.toArray.size = ys.length := by
      have := rv.length
      simp
      omega
    refine (Draws.list hh i b hne its.toArray).item k s Q E (by omega) ⟨s1, p⟩ fun x h' tk px st' sb => hQ x h' tk ?_ ⟨st'.1, its, rv, st'.2⟩ sb
    obtain ⟨u, hu, ru⟩ := rv.get (List.getElem?_eq_getElem hi)
    have eu : u = x := by
      have z : its[k]? = some x := by simpa using px
      rw [hu] at z
      exact Option.some.inj z
    subst eu
    exact ⟨_, List.getElem?_eq_getElem hi, ru⟩
  done := fun s Q E ⟨s1, its, rv, p⟩ hE => by
    have el : its.toArray.size = ys.length := by
      have := rv.length
      simp
      omega
    refine (Draws.list hh i b hne its.toArray).done s Q E ⟨?_, p⟩ hE
    rw [el]
    exact s1
theorem side_lst {P : Program} {w : World} {K : PySem.W.Frag} {i b : Addr} (hne : b ≠ i) (ys : List V) :
    Side P w K i [i, b] ys.length (fun k v => ∃ y, ys[k]? = some y ∧ RelV y v) (fun k h => h.IsListIter i b k) (fun _ h => ∃ its : List Value, Vals ys its ∧ h.IsList b its.toArray) (fun H => SqL K H b ys) (fun k y => ys[k]? = some y) where
  dr := fun A hh => draws_lst hh hne ys
  cell := fun k h ⟨o, e, _, d⟩ => ⟨o, e, fun v q => by rw [d] at q; cases q⟩
  at_ := fun k h h' st f => st.at f
  so := fun X pins σ H s k hK I hq => by
    subst hK
    obtain ⟨its, rv, p, _⟩ := I.list hq
    exact ⟨its, rv, p.isList⟩
  rel := fun X pins σ H s k x _ _ _ hx => hx
/-- what a zip may walk here: a list, a tuple, a text -/
inductive Zl (K : PySem.W.Frag) (H : Hp) : V → Nat → (Hp → Prop) → (Nat → V → Prop) → Prop where
  | lst {b : Addr} {ys : List V} (h : SqL K H b ys) : Zl K H (.ref b) ys.length (fun H => SqL K H b ys) (fun k y => ys[k]? = some y)
  | old {v : V} {n : Nat} {h : Hp → Prop} {m : Nat → V → Prop} (z : Zs K H v n h m) : Zl K H v n h m
section
variable {X : Cx} {pins : List (Addr × Obj)} {σ : St} {H : Hp} {s : Shared}
theorem zl_side {v : V} {u : Value} {n : Nat} {hold : Hp → Prop} {m : Nat → V → Prop} (Z : Zl X.K H v n hold m) (r : RelV v u) (I : Inv X pins σ H s) :
    ∃ (o : Obj) (B : Heap → Prop), Begins u o B ∧ B s.heap ∧ hold H ∧ ∀ i, s.heap.objs.size ≤ i → ∃ (fp : List Addr) (P : Nat → Value → Prop) (It So : Nat → Heap → Prop), Side X.prog X.w X.K i fp n P It So hold m ∧ i ∈ fp ∧ (∀ c, s.heap.objs.size ≤ c → c ≠ i → c ∉ fp) ∧ ∀ h' : Heap, h'.get? i = some o → It 0 h' := by
  cases Z with
  | old z => exact zs_side z r I
  | @lst b ys hq =>
    cases r
    obtain ⟨its, rv, p, _⟩ := I.list hq
    have lb : b < s.heap.objs.size := by
      obtain ⟨_, q, _⟩ := p.isList
      exact Heap.lt_size q
    refine ⟨_, _, begins_list b its.toArray, p.isList, hq, fun i hi => ⟨_, _, _, _, side_lst (Nat.ne_of_lt (Nat.lt_of_lt_of_le lb hi)) ys, List.mem_cons_self, fun c hc nc => ?_, fun h' q => ⟨_, q, rfl, rfl⟩⟩⟩
    simp only [List.mem_cons, List.not_mem_nil, or_false, not_or]
    exact ⟨nc, Nat.ne_of_gt (Nat.lt_of_lt_of_le lb hc)⟩
end
def iZipL (K : PySem.W.Frag) (ta : TA) : TI := fun σ H R => ta σ H fun vs H1 => ∃ (v1 v2 : V) (n1 n2 : Nat) (h1 h2 : Hp → Prop) (m1 m2 : Nat → V → Prop), vs = [v1, v2] ∧ Zl K H1 v1 n1 h1 m1 ∧ Zl K H1 v2 n2 h2 m2 ∧ R (ItzG n1 n2 h1 h2 m1 m2) H1
theorem pi_zipL {X : Cx} {e e2 : Expr} {ta : TA} {p pos tpos : Pos} {elts : List Expr} {kk : Nat} (hg : Gl X "zip") (hm : X.mg "zip" = none) (ha : PA X [e, e2] ta)
    (hs : starEach [e, e2] X.env = (false, eval e X.env) :: starEach [e2] X.env := by rfl) (hpl : (backTo pos (starEach [e2] X.env)).any (·.1) = false := by rfl) :
    PI X (.Tuple elts kk tpos) (.Call (.Name "zip" p) [e, e2] [] pos) (iZipL X.K ta) := by
  refine ⟨fun pins s σ H R I h => Call_ (ld_blt I hg hm PyProof.Rows.boot_zip (PyProof.Rows.callWith_type1 (thn (ha.run pos pins s σ H _ I h) fun us s1 ⟨vs, H1, I1, r1, q1⟩ => ?_) hs hpl))⟩
  obtain ⟨v1, v2, n1, n2, h1, h2, m1, m2, ex, Z1, Z2, q⟩ := q1
  subst ex
  obtain ⟨u1, u2, rfl, ra, rb⟩ := vals2 r1
  obtain ⟨o1, B1, b1, c1, k1, f1⟩ := zl_side Z1 ra I1
  obtain ⟨o2, B2, b2, c2, k2, f2⟩ := zl_side Z2 rb I1
  obtain ⟨fp1, P1, It1, S1, A1, e1, x1, t1⟩ := f1 s1.heap.objs.size (Nat.le_refl _)
  obtain ⟨fp2, P2, It2, S2, A2, e2', x2, t2⟩ := f2 (s1.heap.objs.size + 1) (Nat.le_succ _)
  have fresh : ∀ c, c ∈ [s1.heap.objs.size + 4, s1.heap.objs.size + 2, s1.heap.objs.size + 3, s1.heap.objs.size, s1.heap.objs.size + 1] → FpOk X pins H1 c := fun c hc => by
    have le : s1.heap.objs.size ≤ c := by
      simp only [List.mem_cons, List.not_mem_nil, or_false] at hc
      omega
    exact I1.fpOk le (I1.hok.fresh le)
  refine zip_begins2 b1 b2 c1 c2 fun h' hz hTI hTO g1 g2 hsz hk => wpAny_pyIter_zip hz ?_
  have I2 : Inv X pins σ H1 { s1 with heap := h' } := I1.kept (t' := s1.toks) hk
  have D : ZipSep2 (s1.heap.objs.size + 4) (s1.heap.objs.size + 2) (s1.heap.objs.size + 3) s1.heap.objs.size (s1.heap.objs.size + 1) fp1 fp2 :=
    { TIz := (neA (by omega)), TOz := (neA (by omega)), TITO := (neA (by omega)), TIi1 := (neA (by omega)), mem1 := e1, zf1 := x1 _ (by omega) ((neA (by omega))), Tf1 := x1 _ (by omega) ((neA (by omega))), TIi2 := (neA (by omega)), mem2 := e2',
      zf2 := x2 _ (by omega) ((neA (by omega))), Tf2 := x2 _ (by omega) ((neA (by omega))), sep1_2 := x2 _ (by omega) ((neA (by omega))), sep2_1 := x1 _ (by omega) ((neA (by omega))) }
  exact ⟨s1.heap.objs.size + 4, [s1.heap.objs.size + 4, s1.heap.objs.size + 2, s1.heap.objs.size + 3, s1.heap.objs.size, s1.heap.objs.size + 1], _, _, H1, rfl, I2, turn_zipG D A1 A2, ⟨hz, hTI, ⟨_, _, hTO⟩, t1 h' g1, t2 h' g2⟩, fresh, q⟩
end L2

/-! range(n) as a value; list(range(..)) -/
namespace L2
open PySem PySem.Spec PyProof.Rows
def rRng1 : List V → Hp → VK → Prop := fun vs H Q => ∃ j, vs = [V.int j] ∧ ∀ p, H p = none → Q (.ref p) (upd H p (.rng 0 j))
def rLstR : List V → Hp → VK → Prop := fun xs H Q => ∃ (a : Addr) (lo hi : Int), xs = [.ref a] ∧ H a = some (.rng lo hi) ∧ (-(2 ^ 62) ≤ lo ∧ lo < 2 ^ 62 ∧ -(2 ^ 62) ≤ hi ∧ hi < 2 ^ 62) ∧ (hi - lo).toNat ≤ 100000 ∧
    ∀ p, H p = none → Q (.ref p) (upd H p (.lst ((List.range (hi - lo).toNat).map fun i : Nat => V.int (lo + (i : Int)))))
section
variable {X : Cx}
theorem cr_range1 : CallR X (.type "range") rRng1 := by
  intro pins s σ H vs us Q I r h
  obtain ⟨j, rfl, q⟩ := h
  obtain ⟨u, rfl, r1⟩ := vals1 r
  obtain ⟨t, rfl⟩ := r1
  refine call_range_1 ?_
  refine ⟨.ref s.heap.objs.size, upd H s.heap.objs.size (.rng 0 j), I.laid (fun b u e => Heap.get?_push_of_some _ e) (Nat.le_refl _) ⟨s.toks, t, s.toks + 1, Heap.get?_push_size _ rfl⟩, rfl, q _ (I.hok.fresh (Nat.le_refl _))⟩
theorem vals_rng {n : Nat} {lo : Int} {l : List Value} (hl : l.length = n) (h : ∀ (j : Nat) (v : Value), l[j]? = some v → ∃ t, v = .int (lo + (j : Nat) * 1) t) : Vals ((List.range n).map fun i : Nat => V.int (lo + (i : Int))) l := by
  induction l generalizing n lo with
  | nil =>
    subst hl
    exact .nil
  | cons a r ih =>
    subst hl
    show Vals ((List.range (r.length + 1)).map _) (a :: r)
    rw [List.range_succ_eq_map, List.map_cons, List.map_map]
    refine .cons ?_ ?_
    · obtain ⟨t, e⟩ := h 0 a rfl
      exact ⟨t, by rw [e]; simp⟩
    · have z := ih (n := r.length) (lo := lo + 1) rfl (fun j v e => by
        obtain ⟨t, q⟩ := h (j + 1) v e
        exact ⟨t, by rw [q]; congr 1; push_cast; omega⟩)
      have e : ((fun i : Nat => V.int (lo + (i : Int))) ∘ Nat.succ) = fun i : Nat => V.int (lo + 1 + (i : Int)) := by
        funext i
        show V.int _ = V.int _
        congr 1
        push_cast
        omega
      rw [e]
      exact z
theorem call_list_rng (hcalm : X.calm = true) : CallR X (.type "list") rLstR := by
  intro pins s σ H xs us Q I r h
  obtain ⟨a, lo, hi, rfl, ha, ⟨h1, h2, h3, h4⟩, hn, q⟩ := h
  obtain ⟨u, rfl, r1⟩ := vals1 r
  cases r1
  obtain ⟨t, u, v, e⟩ : ∃ t u v, s.heap.get? a = some { cls := .type "range", data := .fields #[.int lo t, .int hi u, .int 1 v] } := I.hok _ _ ha
  refine call_list_range (n := (hi - lo).toNat) (I.ok.hd hcalm) e (small_one h1 h2 h3 h4) (rangeSize_nat lo hi) (by omega) fun h' tk acc c' hk hS hacc => ?_
  have hv : Vals ((List.range (hi - lo).toNat).map fun i : Nat => V.int (lo + (i : Int))) acc.toList := vals_rng (by rw [Array.length_toList]; exact hacc.1) fun j v e => hacc.2 j v (by rw [← Array.getElem?_toList]; exact e)
  refine ⟨.ref s.heap.objs.size, upd H s.heap.objs.size (.lst _), I.laid (t' := tk) hk (Nat.le_refl _)
    (show ObjOk X.prog X.w (upd H s.heap.objs.size (.lst ((List.range (hi - lo).toNat).map fun i : Nat => V.int (lo + (i : Int))))) h' s.heap.objs.size (.lst ((List.range (hi - lo).toNat).map fun i : Nat => V.int (lo + (i : Int)))) from ⟨?_, acc.toList, c', hv, by rw [Array.toArray_toList]; exact hS⟩), rfl, q _ (I.hok.fresh (Nat.le_refl _))⟩
  rw [List.length_map, List.length_range, sizeLine_eq]
  omega
end
end L2
namespace L2
open PySem PySem.Spec PyProof.Rows
theorem op_catAK {X : Cx} {K : PySem.W.Frag} (hK : X.K = K := by rfl) : OpR X (binaryOp .Add) (rCatA K) := by
  subst hK
  exact op_catA
end L2
namespace L2
open PySem PySem.Spec PyProof.Rows Evl
/-- list(range(n)) -/
theorem el_rng {te : TE} {σ : St} {H : Hp} {n : Nat} (h : Ev te σ H (.int (n : Int))) (few : n ≤ 100000) : EvL (tCB rLstR (tCons (tCB rRng1 (tCons te tNil)) tNil)) σ H ((List.range n).map fun i : Nat => V.int (i : Int)) := fun H1 e1 Q q =>
  h H1 e1 _ fun H2 e2 => ⟨(n : Int), rfl, fun p hp => ⟨p, 0, (n : Int), rfl, upd_same, ⟨by omega, by omega, by omega, by omega⟩, by omega, fun l hl => by
    have en : ((n : Int) - 0).toNat = n := by omega
    have z := q l (upd (upd H2 p (.rng 0 (n : Int))) l (.lst ((List.range n).map fun i : Nat => V.int (i : Int)))) (fresh_back (e2.trans (Ex.new hp)) hl) ((e2.trans (Ex.new hp)).trans (Ex.new hl)) upd_same
    have ef : (fun i : Nat => V.int ((0 : Int) + (i : Int))) = fun i : Nat => V.int (i : Int) := funext fun i => by rw [Int.zero_add]
    rw [en, ef]
    exact z⟩⟩
end L2


-- base: law_k52_report_texts
/-! the law -/
namespace K52
open PySem L2 LamX LamV Evl OxK
def spRrE (K : PySem.W.Frag) (CT : Addr) : Sp := fun vs H Q E => spRrp K vs H Q E ∨ spRrpX K CT vs H Q E
structure Gk (P : Program) (w : World) (K : PySem.W.Frag) (mg : Str → Option Value) (base : Heap) where
  T : NoS mg
  brange : mg "range" = none
  fdBag : FuncData
  GBag : FnOk P w K mg base CX0 1 (He.ga K "_law_bag") fdBag ["_law_script"] (spBag K)
  gBag : mg "_law_bag" = some (.ref (He.ga K "_law_bag"))
  kBag : PySem.W.keepIn K (.ref (He.ga K "_law_bag")) = true
  bBag : Binds K fdBag ["_law_script"] []
  fdPull : FuncData
  GPull : FnOk P w K mg base CX0 1 (He.ga K "_law_pull") fdPull ["_law_bag_here", "_law_amount"] spPull
  gPull : mg "_law_pull" = some (.ref (He.ga K "_law_pull"))
  kPull : PySem.W.keepIn K (.ref (He.ga K "_law_pull")) = true
  bPull : Binds K fdPull ["_law_bag_here", "_law_amount"] []
  fdOf : FuncData
  GOf : FnOk P w K mg base CX0 2 (He.ga K "_law_of") fdOf ["_law_bag_here", "_law_things"] (spOf K)
  gOf : mg "_law_of" = some (.ref (He.ga K "_law_of"))
  kOf : PySem.W.keepIn K (.ref (He.ga K "_law_of")) = true
  bOf : Binds K fdOf ["_law_bag_here", "_law_things"] []
  fdSame : FuncData
  GSame : FnOk P w K mg base CX0 4 (He.ga K "_law_same") fdSame ["_law_found", "_law_due"] (spSame 3)
  gSame : mg "_law_same" = some (.ref (He.ga K "_law_same"))
  kSame : PySem.W.keepIn K (.ref (He.ga K "_law_same")) = true
  bSame : Binds K fdSame ["_law_found", "_law_due"] []
  fdDg : FuncData
  GDg : FnOk P w K mg base CX0 1 (He.ga K "_law_is_digits") fdDg ["_law_text_z"] spDgt
  gDg : mg "_law_is_digits" = some (.ref (He.ga K "_law_is_digits"))
  kDg : PySem.W.keepIn K (.ref (He.ga K "_law_is_digits")) = true
  bDg : Binds K fdDg ["_law_text_z"] []
  fdRr : FuncData
  GRr : FnOk P w K mg base CX0 3 (He.ga K "read_report") fdRr ["text"] (spRrp K)
  gRr : mg "read_report" = some (.ref (He.ga K "read_report"))
  kRr : PySem.W.keepIn K (.ref (He.ga K "read_report")) = true
  bRr : Binds K fdRr ["text"] []
  fdRt : FuncData
  GRt : FnOk P w K mg base CX0 1 (He.ga K "report_text") fdRt ["report"] (spRtx K)
  gRt : mg "report_text" = some (.ref (He.ga K "report_text"))
  kRt : PySem.W.keepIn K (.ref (He.ga K "report_text")) = true
  bRt : Binds K fdRt ["report"] []
  fdTry : FuncData
  GTry : ∀ base, FnOk P w K mg base CX0 15 (He.ga K "_law_try") fdTry ["_law_ask"] (spTry P w K mg (He.ga K "TeamError") (He.ga K "Missing") (He.ga K "NothingLeft") 11 base)
  gTry : mg "_law_try" = some (.ref (He.ga K "_law_try"))
  kTry : PySem.W.keepIn K (.ref (He.ga K "_law_try")) = true
  bTry : Binds K fdTry ["_law_ask"] []
  FRt : FunD K "report_text" "report_text" (defArgs sRtx) (defBody sRtx) (defScope sRtx) [] [] (He.ga K "report_text") fdRt
  FRr : FunD K "read_report" "read_report" (defArgs sRrp) (defBody sRrp) (defScope sRrp) [] [] (He.ga K "read_report") fdRr
  GRx : ∀ base, FnOk P w K mg base (L2.CX P w) 4 (He.ga K "read_report") fdRr ["text"] (spRrE K (He.ga K "InvalidText"))
  eT : ErrC K (He.ga K "TeamError") (He.ga K "InvalidText")
theorem lam_u (P : Addr) (q : Str) : ∀ p ∈ [(P, q)], p.1 = P → p.2 = q := fun p hp _ => by rw [List.mem_singleton.mp hp]
def TL (PT : Addr) : List (Addr × Str) := [(PT, (PyProof.Rows.envOfC "law" (defScope sLaw) 0 0 .none).qual ++ "<lambda>")]
def spLaw (K : PySem.W.Frag) (T : List (Addr × Str)) : Sp := fun vs H Q _ => ∃ (a : Addr) (ns : List Int), vs = [.ref a] ∧ SqL K H a (ns.map V.int) ∧ ns.length ≤ 1000 ∧ Tabs T H ∧ ∀ H', Q (.bl true) H'
section
variable {P : Program} {w : World} {K : PySem.W.Frag} {mg : Str → Option Value} {base : Heap} {f : Addr} {fd : FuncData}
theorem kb_rt (F : FunD K "report_text" "report_text" (defArgs sRtx) (defBody sRtx) (defScope sRtx) [] [] f fd) : KBn K fd ["report"] 0 ["report"] (fun us ws => (ws.drop 0).take 1) (fun us ws => (ws.drop 0).take 1) := by
  obtain ⟨oc, od, dV, kV, doc, pm, an, cdv, ct, osl, rfl, lk, hcd, hD, hK⟩ := F.ex
  rcases hD with ⟨_, rfl⟩ | ⟨e, _⟩
  · refine ⟨fun s us ws X l1 l2 => BindsTo.of_looks fun M => ?_, fun r1 r3 => ((r3.drop 0).take 1)⟩
    match us, ws, l1, l2 with
    | [], [b0], _, _ => exact PySem.W.Looks.of_pure rfl
  · exact absurd rfl e
theorem kb_rr (F : FunD K "read_report" "read_report" (defArgs sRrp) (defBody sRrp) (defScope sRrp) [] [] f fd) : KBn K fd ["text"] 0 ["text"] (fun us ws => (ws.drop 0).take 1) (fun us ws => (ws.drop 0).take 1) := by
  obtain ⟨oc, od, dV, kV, doc, pm, an, cdv, ct, osl, rfl, lk, hcd, hD, hK⟩ := F.ex
  rcases hD with ⟨_, rfl⟩ | ⟨e, _⟩
  · refine ⟨fun s us ws X l1 l2 => BindsTo.of_looks fun M => ?_, fun r1 r3 => ((r3.drop 0).take 1)⟩
    match us, ws, l1, l2 with
    | [], [b0], _, _ => exact PySem.W.Looks.of_pure rfl
  · exact absurd rfl e
end
section
variable {b l : Addr} {H H' : Hp} {ns : List Int}
theorem bag_put {p : Addr} {o : HO} (B : Bag H b l ns) (nb : p ≠ b) (nl : p ≠ l) : Bag (upd H p o) b l ns := by
  obtain ⟨q1, q2, q3, i', j', s', q4, q5⟩ := B
  exact ⟨q1, by rw [upd_ne nl.symm]; exact q2, q3, i', j', s', by rw [upd_ne nb.symm]; exact q4, q5⟩
theorem dl_mut2 {b D : Addr} {H H' : Hp} {o : HO} (e : Ex (dl b H) (dl b H')) (hD : H D = none) : Ex (dl b H) (dl b (upd H' D o)) := fun c v h => by
  have hc : c ≠ D := by
    rintro rfl
    have z := (dl_some h).2
    rw [hD] at z
    cases z
  exact dl_of (dl_some h).1 (by rw [upd_ne hc]; exact (dl_some (e _ _ h)).2)
end
/-! ### reports' texts, in numbers -/
theorem optV_flat : ∀ o : Option Nat, Flat (optV o)
  | none => True.intro
  | some _ => True.intro
def rsD (rs : List (Option Nat)) : Dt := .t (rs.map fun o => .f (optV o))
theorem has_rs {H : Hp} {a : Addr} {rs : List (Option Nat)} {n : Nat} (h : H a = some (.tup (rs.map optV))) (few : rs.length ≤ 1000) : Has H (n + 1) (.ref a) (rsD rs) :=
  .inr ⟨a, _, _, rfl, .inr ⟨h, rfl⟩, by simp, by simp; exact few, fun i x d h1 h2 => by
    rw [List.getElem?_map] at h1 h2
    cases e : rs[i]? with
    | none => rw [e] at h1; cases h1
    | some o =>
      rw [e] at h1 h2
      cases h1
      cases h2
      exact has_flat (optV_flat o) n⟩
theorem sg_num (n : Nat) : sg (Str.ofString (toString ((n : Nat) : Int))) = _root_.TL.numL n := _root_.TL.tl_num n
theorem numL_head : ∀ n : Nat, 0 < n → (_root_.TL.numL n).head? ≠ some 48 := by
  intro n
  induction n using Nat.strongRecOn with
  | _ n ih =>
    intro h0
    by_cases h : n < 10
    · rw [_root_.TL.numL_lt h]
      simp
      omega
    · rw [_root_.TL.numL_step (by omega)]
      have z := ih (n / 10) (by omega) (by omega)
      cases e : _root_.TL.numL (n / 10) with
      | nil => exact absurd e (_root_.TL.numL_ne _)
      | cons a r =>
        rw [e] at z
        simpa using z
theorem isNum_num {n : Nat} (h : n ≤ 10 ^ 30) : isNumW (Str.ofString (toString ((n : Nat) : Int))) = true := by
  have ln := optT_len (o := some n) fun m e => by cases e; exact h
  have e := sg_num n
  have dg := _root_.TL.numL_digits n
  have ne := _root_.TL.numL_ne n
  have l1 : 1 ≤ (Str.ofString (toString ((n : Nat) : Int))).length := by
    rw [_root_.TL.len_tl, _root_.TL.tl_num]
    cases q : _root_.TL.numL n with
    | nil => exact absurd q ne
    | cons a r => simp
  unfold isNumW
  rw [decide_eq_true l1, decide_eq_true (show (Str.ofString (toString ((n : Nat) : Int))).length ≤ 31 from ln)]
  have a1 : ((sg (Str.ofString (toString ((n : Nat) : Int)))).all fun c => decide (48 ≤ c) && decide (c ≤ 57)) = true := by
    rw [e, List.all_eq_true]
    intro c hc
    have := dg c hc
    simp
    omega
  rw [a1]
  by_cases z : n = 0
  · subst z
    rfl
  · have hh := numL_head n (by omega)
    have q : ((sg (Str.ofString (toString ((n : Nat) : Int)))).head? == some 48) = false := by
      rw [e]
      simpa using hh
    rw [q]
    rfl
theorem numW_num {n : Nat} (h : n ≤ 10 ^ 30) : numW (Str.ofString (toString ((n : Nat) : Int))) = some n := by
  unfold numW
  rw [if_pos (isNum_num h), sg_num, _root_.TL.numL_val]
theorem num_dash (n : Nat) : Str.ofString (toString ((n : Nat) : Int)) ≠ Str.ofString "-" := fun e => by
  have z := congrArg sg e
  rw [sg_num] at z
  have m : 45 ∈ _root_.TL.numL n := by
    rw [z]
    decide
  exact _root_.TL.numL_free (.inl (by decide)) m
theorem partO_optT {o : Option Nat} (h : ∀ n, o = some n → n ≤ 10 ^ 30) : partO (optT o) = some o := by
  cases o with
  | none => rfl
  | some n =>
    show partO (Str.ofString (toString ((n : Nat) : Int))) = _
    unfold partO
    rw [if_neg (num_dash n), numW_num (h n rfl)]
    rfl
theorem optT_free (o : Option Nat) : 44 ∉ _root_.TL.tl (optT o) := by
  cases o with
  | none => decide
  | some n =>
    show 44 ∉ _root_.TL.tl (Str.ofString (toString ((n : Nat) : Int)))
    rw [_root_.TL.tl_num]
    exact _root_.TL.numL_free (.inl (by decide))
theorem repT_split {rs : List (Option Nat)} (ne : rs ≠ []) : Txt.split (repT rs) (Str.ofString ",") = rs.map optT :=
  _root_.TL.split_join (s := 44) (S := []) (by decide) (by decide +kernel) (fun e => ne (List.map_eq_nil_iff.mp e)) fun p hp => by
    obtain ⟨o, _, rfl⟩ := List.mem_map.mp hp
    exact optT_free o
theorem repT_parts {rs : List (Option Nat)} (ne : rs ≠ []) (big : ∀ n, some n ∈ rs → n ≤ 10 ^ 30) : (Txt.split (repT rs) (Str.ofString ",")).map partO = rs.map some := by
  rw [repT_split ne, List.map_map]
  exact List.map_congr_left fun o ho => partO_optT fun n e => big n (e ▸ ho)
theorem joinL_len {S : List Nat} : ∀ ps : List (List Nat), (_root_.TL.joinL S ps).length ≤ (ps.map List.length).sum + ps.length * S.length
  | [] => by simp [_root_.TL.joinL]
  | [p] => by simp [_root_.TL.joinL]
  | p :: q :: r => by
    have ih := joinL_len (S := S) (q :: r)
    show (p ++ (S ++ _root_.TL.joinL S (q :: r))).length ≤ _
    rw [List.length_append, List.length_append, List.map_cons, List.sum_cons, List.length_cons (as := q :: r), Nat.succ_mul]
    omega
theorem repT_len {rs : List (Option Nat)} (big : ∀ n, some n ∈ rs → n ≤ 10 ^ 30) : (repT rs).length ≤ 32 * rs.length := by
  unfold repT
  rw [_root_.TL.join_eq, _root_.TL.len_tl, _root_.TL.tl_join]
  have a := joinL_len (S := _root_.TL.tl (Str.ofString ",")) ((rs.map optT).map _root_.TL.tl)
  have b := sum_le31 rs big
  have c : (((rs.map optT).map _root_.TL.tl).map List.length).sum = ((rs.map optT).map fun x => x.length).sum := by
    rw [List.map_map]
    congr 1
  have d : (_root_.TL.tl (Str.ofString ",")).length = 1 := by decide
  rw [c, d] at a
  simp only [List.length_map] at a
  omega
/-- the first that is bad -/
theorem first_bad {α : Type} {p : α → Bool} : ∀ {l : List α}, l.all p = false → ∃ (i : Nat) (w : α), l[i]? = some w ∧ p w = false ∧ ∀ (j : Nat) (u : α), j < i → l[j]? = some u → p u = true
  | [], h => by cases h
  | a :: r, h => by
    cases e : p a with
    | false => exact ⟨0, a, rfl, e, fun j u hj => absurd hj (by omega)⟩
    | true =>
      rw [List.all_cons, e, Bool.true_and] at h
      obtain ⟨i, w, h1, h2, h3⟩ := first_bad h
      refine ⟨i + 1, w, h1, h2, fun j u hj hu => ?_⟩
      cases j with
      | zero => cases hu; exact e
      | succ j => exact h3 j u (by omega) hu
def goodT (t : Str) : Bool := (Txt.split t (Str.ofString ",")).all fun u => (partO u).isSome
def rsT (t : Str) : List (Option Nat) := (Txt.split t (Str.ofString ",")).map fun u => (partO u).getD none
theorem good_parts {t : Str} (h : goodT t = true) : (Txt.split t (Str.ofString ",")).map partO = (rsT t).map some := by
  unfold rsT
  rw [List.map_map]
  refine List.map_congr_left fun u hu => ?_
  have z := List.all_eq_true.mp h u hu
  cases e : partO u with
  | none => rw [e] at z; cases z
  | some o => simp [e]
theorem rsT_len {t : Str} (h : t.length ≤ 900) : (rsT t).length ≤ 1000 := by
  unfold rsT
  rw [List.length_map]
  have := PyProof.Rows.split_le t (Str.ofString ",")
  omega
theorem part_some (u : Str) : (partO u).isSome = (decide (u = Str.ofString "-") || isNumW u) := by
  unfold partO
  by_cases h : u = Str.ofString "-"
  · rw [if_pos h, decide_eq_true h]
    rfl
  · rw [if_neg h, decide_eq_false h, Bool.false_or]
    unfold numW
    by_cases q : isNumW u = true
    · rw [if_pos q, q]; rfl
    · rw [if_neg q]
      simp [Bool.eq_false_iff.mpr q]
def rowsP (t : Str) : List Str := Txt.split t (Str.ofString ",")
section
variable {K : PySem.W.Frag} {CT b p : Addr} {σ : L2.St} {H : Hp} {v : V} {t : Str} {Q : VK} {E : XK} {te : TE} {i j : Nat} {rs : List (Option Nat)}
/-- the report's text, as the law writes it -/
theorem ev_repT (hi : ∀ x, ((wipe σ [j]).set j (some x))[j]? = some (some x)) (hw : ∀ x, wipe ((wipe σ [j]).set j (some x)) [j] = wipe σ [j]) (hp : σ[i]? = some (some (.ref p))) (hT : H p = some (.tup (rs.map optV))) (few : rs.length ≤ 100) (big : ∀ n, some n ∈ rs → n ≤ 10 ^ 30) :
    Ev (tM1 (fun x xs H Q => ∃ a p ys, x = V.str a ∧ xs = [V.ref p] ∧ (SqL K H p (ys.map V.str) ∨ SqT K H p (ys.map V.str)) ∧ (ys.map fun x => x.length).sum + ys.length * a.length ≤ 16777216 ∧ Q (V.str (Txt.join a ys)) H) (tC (V.str (Str.ofString ",")))
      (tLc (iTup K (tVar i)) (gName j) tYes (tIf (tB (tIsN (tVar j))) (tC (V.str (Str.ofString "-"))) (tCB (fun xs H Q => ∃ i, xs = [V.int i] ∧ i.natAbs.log2 < 1920 ∧ Q (V.str (Str.ofString (toString i))) H) (tCons (tVar j) tNil))) [j])) σ H (.str (repT rs)) := fun H0 e0 Q0 q0 => by
  have el : EvL (tLc (iTup K (tVar i)) (gName j) tYes (tIf (tB (tIsN (tVar j))) (tC (V.str (Str.ofString "-"))) (tCB (fun xs H Q => ∃ i, xs = [V.int i] ∧ i.natAbs.log2 < 1920 ∧ Q (V.str (Str.ofString (toString i))) H) (tCons (tVar j) tNil))) [j]) σ H0 ((List.range rs.length).map fun i => V.str (optT (rs.getD i none))) :=
    lc_vals (yl := yPl (rs.map optV)) (n := rs.length) (fun i => V.str (optT (rs.getD i none))) (fun H6 e6 R r => ⟨_, hp, p, rfl, ⟨_, SqT.of (e6 _ _ (e0 _ _ hT))⟩, r (Itt K p) H6 (Ex.refl H6) (by have z := wk_t (K := K) (SqT.of (e6 _ _ (e0 _ _ hT))); rw [List.length_map] at z; exact z)⟩) few (fun _ _ _ _ h => h.1) hw fun k y H6 e6 hk yl => by
      obtain ⟨o, ho⟩ : ∃ o, rs[k]? = some o := ⟨_, List.getElem?_eq_getElem hk⟩
      have hy := yl.2
      rw [List.getElem?_map, ho] at hy
      have ey : y = optV o := (Option.some.inj hy).symm
      subst ey
      rw [List.getD_eq_getElem?_getD, ho]
      cases o with
      | none => exact ev_if (b := true) (et_B (ev_is (ev_isN (ev_var (hi _))) (congrArg V.bl (decide_eq_true rfl)))) (fun _ => ev_c) (fun h => nomatch h)
      | some n => exact ev_if (b := false) (et_B (ev_is (ev_isN (ev_var (hi _))) (congrArg V.bl (decide_eq_false (fun h => nomatch h))))) (fun h => nomatch h) (fun _ H7 e7 Q7 q7 => ⟨_, hi _, (n : Int), rfl, log_small (big n (List.mem_of_getElem? ho)), q7 H7 (Ex.refl _)⟩)
  refine ⟨⟨_, rfl⟩, el H0 (Ex.refl _) _ fun D H1 hD e1 h1 => ⟨_, D, rs.map optT, rfl, rfl, .inl (SqL.of ?_), ?_, q0 H1 e1⟩⟩
  · rw [h1]
    congr 2
    apply List.ext_getElem
    · simp
    · intro i a b
      simp at a b
      simp [List.getD_eq_getElem?_getD, a]
  · have z := sum_le31 rs big
    rw [List.length_map]
    have : (Str.ofString ",").length = 1 := by decide
    rw [this]
    omega
/-- report_text(report=report) -/
theorem vd_rt (hp : σ[i]? = some (some (.ref p))) (hT : dl b H p = some (.tup (rs.map optV))) (few : rs.length ≤ 100) (big : ∀ n, some n ∈ rs → n ≤ 10 ^ 30) : VD b (tCallN 0 1 (spRtx K) (fun us ws => (ws.drop 0).take 1) E0 tNil (tCons (tVar i) tNil)) σ H 1 (.f (.str (repT rs))) := fun H1 e1 nb Q q =>
  ⟨_, hp, rfl, rfl, p, rs, rfl, SqT.of (dl_some (e1 _ _ hT)).2, few, big, fun H2 e2 => q _ H2 e2 (has_flat (v := .str _) True.intro 1)⟩
/-- read_report(text) of a good one -/
theorem vd_rr {n : Nat} (hv : σ[i]? = some (some (.str t))) (tf : t.length ≤ 900) (h : (Txt.split t (Str.ofString ",")).map partO = rs.map some) : VD b (tCall (spRrp K) [] E0 (tCons (tVar i) tNil)) σ H (n + 1) (rsD rs) := fun H1 e1 nb Q q =>
  ⟨_, hv, t, rs, rfl, tf, h, fun T H2 hT e2 h2 => q _ H2 e2 (has_rs (dl_of (fun z => nb (by rw [← z]; exact hT)) h2) (by
    have z := congrArg List.length h
    simp only [List.length_map] at z
    have := PyProof.Rows.split_le t (Str.ofString ",")
    omega))⟩
/-- read_report(text=text), good and bad -/
theorem vl_rr (hv : σ[i]? = some (some (.str t))) (tf : t.length ≤ 900) (h : goodT t = true) (q : ∀ v H2, Ex H H2 → Has (nw H H2) 1 v (rsD (rsT t)) → Q v H2) : tCallN 0 1 (spRrE K CT) (fun us ws => (ws.drop 0).take 1) E tNil (tCons (tVar i) tNil) σ H Q :=
  ⟨_, hv, rfl, rfl, .inl ⟨t, rsT t, rfl, tf, good_parts h, fun T H2 hT e2 h2 => q _ H2 e2 (has_rs (nw_of hT h2) (rsT_len tf))⟩⟩
theorem bad_rr (tf : t.length ≤ 900) (h : goodT t = false) (r : Rz0 CT "InvalidText" H E) : spRrpX K CT [.str t] H Q E := by
  obtain ⟨i, w, h1, h2, h3⟩ := first_bad h
  exact ⟨_, rfl, r, .inr ⟨t, i, w, rfl, tf, h1, by cases e : partO w with | none => rfl | some o => (rw [e] at h2; cases h2), h3⟩⟩
theorem rz_rr (hv : σ[i]? = some (some (.str t))) (tf : t.length ≤ 900) (h : goodT t = false) (r : Rz0 CT "InvalidText" H E) : tCallN 0 1 (spRrE K CT) (fun us ws => (ws.drop 0).take 1) E tNil (tCons (tVar i) tNil) σ H Q :=
  ⟨_, hv, rfl, rfl, .inr (bad_rr tf h r)⟩
end
/-! ### values that are no text of a report -/
def odd52 : List Dt := [.f (.str ""), .f (.str ","), .f (.str "01"), .f (.str "--"), .f (.str "1, 2"), .f (.str "-1"), .f (.str (Txt.mul "1" 32)), .f .non, .f (.int 3), .t [.f (.str "0")], .f (.bl true)]
def noRp : Dt → Prop
  | .f (.str t) => t.length ≤ 900 ∧ goodT t = false
  | _ => True
theorem odd52_no : ∀ d ∈ odd52, noRp d := by
  intro d hd
  simp only [odd52, List.mem_cons, List.mem_nil_iff, or_false] at hd
  rcases hd with rfl | rfl | rfl | rfl | rfl | rfl | rfl | rfl | rfl | rfl | rfl <;> first | exact True.intro | exact ⟨by decide +kernel, by decide +kernel⟩
theorem rz_odd {K : PySem.W.Frag} {CT : Addr} {σ : L2.St} {H : Hp} {v : V} {Q : VK} {E : XK} {i n : Nat} {d : Dt} (hv : σ[i]? = some (some v)) (h : Has H (n + 1) v d) (no : noRp d) (r : Rz0 CT "InvalidText" H E) : tCall (spRrE K CT) [] E (tCons (tVar i) tNil) σ H Q := by
  refine ⟨_, hv, .inr ?_⟩
  cases d with
  | f w =>
    obtain ⟨fl, rfl⟩ := has_fl h
    cases v with
    | str t => exact bad_rr no.1 no.2 r
    | non => exact ⟨_, rfl, r, .inl ⟨_, kn_flat fl, by decide⟩⟩
    | bl c => exact ⟨_, rfl, r, .inl ⟨_, kn_flat fl, by show ("bool" : String) ≠ "str"; decide⟩⟩
    | int z => exact ⟨_, rfl, r, .inl ⟨_, kn_flat fl, by show ("int" : String) ≠ "str"; decide⟩⟩
    | _ => exact fl.elim
  | l ds =>
    obtain ⟨T, kn, q⟩ := kn_has (K := K) h (fun w e => nomatch e)
    exact ⟨_, rfl, r, .inl ⟨T, kn, by rcases q with rfl | rfl <;> decide⟩⟩
  | t ds =>
    obtain ⟨T, kn, q⟩ := kn_has (K := K) h (fun w e => nomatch e)
    exact ⟨_, rfl, r, .inl ⟨T, kn, by rcases q with rfl | rfl <;> decide⟩⟩
theorem five52 {p1 p2 : Int} {k : Nat} {v : V} (h1 : 0 ≤ p1) (h2 : p1 < 24) (h3 : 0 ≤ p2) (h4 : p2 < 999) (hk : [V.non, .int 0, .int p1, .int (10 ^ 30), .int p2][k]? = some v) : ∃ o : Option Nat, v = optV o ∧ ∀ n, o = some n → n ≤ 10 ^ 30 := by
  match k, hk with
  | 0, hk => cases hk; exact ⟨none, rfl, fun _ h => nomatch h⟩
  | 1, hk => cases hk; exact ⟨some 0, rfl, fun _ h => by cases h; omega⟩
  | 2, hk =>
    obtain ⟨m, rfl⟩ : ∃ m : Nat, p1 = (m : Int) := ⟨p1.toNat, by omega⟩
    cases hk
    exact ⟨some m, rfl, fun _ h => by cases h; omega⟩
  | 3, hk =>
    cases hk
    exact ⟨some (10 ^ 30), rfl, fun _ h => by cases h; omega⟩
  | 4, hk =>
    obtain ⟨m, rfl⟩ : ∃ m : Nat, p2 = (m : Int) := ⟨p2.toNat, by omega⟩
    cases hk
    exact ⟨some m, rfl, fun _ h => by cases h; omega⟩
  | k + 5, hk => cases hk
def ins52 : List Dt := [.f (.str ""), .f (.str "0"), .f (.str ","), .f (.str "-"), .f (.str " "), .f (.str "a"), .f (.str "1")]
theorem ins52_short : ∀ d ∈ ins52, ∃ z : Str, d = .f (.str z) ∧ z.length ≤ 1 := by
  intro d hd
  simp only [ins52, List.mem_cons, List.mem_nil_iff, or_false] at hd
  rcases hd with rfl | rfl | rfl | rfl | rfl | rfl | rfl <;> exact ⟨_, rfl, by decide⟩
def D52 (t : Str) : Dt := if goodT t = true then .t [.f (.str "value"), rsD (rsT t)] else .t [.f (.str "InvalidText"), .f .non]
theorem part_int {u : Str} {n : Nat} (h : numW u = some n) : intText? u = some (n : Int) ∧ u.length ≤ 31 := by
  unfold numW at h
  by_cases q : isNumW u = true
  · rw [if_pos q] at h
    unfold isNumW at q
    obtain ⟨q1, _⟩ := Bool.and_eq_true_iff.mp q
    obtain ⟨q2, q3⟩ := Bool.and_eq_true_iff.mp q1
    obtain ⟨q4, q5⟩ := Bool.and_eq_true_iff.mp q2
    have l1 := of_decide_eq_true q4
    have l2 := of_decide_eq_true q5
    have ad : NumText.AllDigits (sg u) := fun c hc => by
      have := List.all_eq_true.mp q3 c hc
      simpa using this
    have ne : sg u ≠ [] := fun z => by
      have : u.length = (sg u).length := by simp [Str.length, sg]
      rw [z] at this
      simp at this
      omega
    refine ⟨?_, l2⟩
    rw [intText_digits (x := u) ad ne (by omega)]
    cases h
    rfl
  · rw [if_neg q] at h; cases h
section
variable {K : PySem.W.Frag} {b p : Addr} {σ : L2.St} {H : Hp} {t : Str} {i j : Nat}
theorem wk_parts {H6 : Hp} (e : Ex H H6) (hp : H p = some (.lst ((Txt.split t (Str.ofString ",")).map V.str))) : Wk (Itl K p) H6 (Txt.split t (Str.ofString ",")).length (yPl ((Txt.split t (Str.ofString ",")).map V.str)) := by
  have z := wk_l (K := K) (H0 := H6) (SqL.of (e _ _ hp))
  rw [List.length_map] at z
  exact z
theorem ev_goodT (hi : ∀ x, ((wipe σ [j]).set j (some x))[j]? = some (some x)) (hw : ∀ x, wipe ((wipe σ [j]).set j (some x)) [j] = wipe σ [j]) (hv : σ[i]? = some (some (.ref p))) (hp : H p = some (.lst ((Txt.split t (Str.ofString ",")).map V.str))) (tf : t.length ≤ 900) :
    Ev (tCB (rAll K) (tCons (tLc (iList K (tVar i)) (gName j) tYes (tOrV (tOp rEq (tVar j) (tC (V.str (Str.ofString "-")))) (tCall spDgt [] E0 (tCons (tVar j) tNil))) [j]) tNil)) σ H (.bl (goodT t)) := by
  have few : (Txt.split t (Str.ofString ",")).length ≤ 1000 := by
    have := PyProof.Rows.split_le t (Str.ofString ",")
    omega
  have el := lc_valsK (te := tOrV (tOp rEq (tVar j) (tC (V.str (Str.ofString "-")))) (tCall spDgt [] E0 (tCons (tVar j) tNil))) (σ := σ) (H := H) (vs := [j]) (yl := yPl ((Txt.split t (Str.ofString ",")).map V.str)) (n := (Txt.split t (Str.ofString ",")).length) (fun k => V.bl ((partO ((Txt.split t (Str.ofString ",")).getD k "")).isSome))
    (wi := iList K (tVar i)) (fun H6 e6 R r => ⟨_, hv, p, rfl, ⟨_, SqL.of (e6 _ _ hp)⟩, r (Itl K p) H6 (Ex.refl H6) (wk_parts e6 hp)⟩) few (fun _ _ _ _ h => h.1) hw fun k y H6 e6 hk yl => by
      obtain ⟨u, hu⟩ : ∃ u, (Txt.split t (Str.ofString ","))[k]? = some u := ⟨_, List.getElem?_eq_getElem hk⟩
      have hy := yl.2
      rw [List.getElem?_map, hu] at hy
      have ey : y = .str u := (Option.some.inj hy).symm
      subst ey
      rw [List.getD_eq_getElem?_getD, hu]
      show Ev _ _ _ (V.bl (partO u).isSome)
      rw [part_some]
      have ul : u.length ≤ 1000 := by have := PyProof.Rows.part_short (List.mem_of_getElem? hu); omega
      refine ev_orV (ev_is (ev_op (ev_var (hi _)) ev_c (rv_eq rfl)) (congrArg V.bl (by rw [decide_eq_decide]; exact ⟨fun z => by injection z, fun z => by rw [z]⟩))) fun _ H7 e7 Q7 q7 => ⟨_, hi _, u, rfl, ul, fun H8 e8 => q7 H8 e8⟩
  refine ev_is (ev_allB (bs := (List.range (Txt.split t (Str.ofString ",")).length).map fun k => (partO ((Txt.split t (Str.ofString ",")).getD k "")).isSome) (by rw [List.map_map]; exact el)) (congrArg V.bl ?_)
  unfold goodT
  rw [Bool.eq_iff_iff, List.all_eq_true, List.all_eq_true]
  constructor
  · intro h u hu
    obtain ⟨k, hk, rfl⟩ := List.mem_iff_getElem.mp hu
    have z := h _ (List.mem_map.mpr ⟨k, List.mem_range.mpr hk, rfl⟩)
    rw [List.getD_eq_getElem?_getD, List.getElem?_eq_getElem hk] at z
    exact z
  · intro h z hz
    obtain ⟨k, hk, rfl⟩ := List.mem_map.mp hz
    have hk := List.mem_range.mp hk
    rw [List.getD_eq_getElem?_getD, List.getElem?_eq_getElem hk]
    exact h _ (List.getElem_mem hk)
/-- the due tuple of a good text -/
theorem vd_rsT {n : Nat} (hi : ∀ x, ((wipe σ [j]).set j (some x))[j]? = some (some x)) (hw : ∀ x, wipe ((wipe σ [j]).set j (some x)) [j] = wipe σ [j]) (hv : σ[i]? = some (some (.ref p))) (hp : dl b H p = some (.lst ((Txt.split t (Str.ofString ",")).map V.str))) (tf : t.length ≤ 900) (g : goodT t = true) :
    VD b (tCB (rTupOf K) (tCons (tLc (iList K (tVar i)) (gName j) tYes (tIf (tTest (tOp rEq (tVar j) (tC (V.str (Str.ofString "-"))))) (tC V.non) (tCB (fun xs H Q => ∃ a n, xs = [V.str a] ∧ intText? a = some n ∧ a.length ≤ 640 ∧ Q (V.int n) H) (tCons (tVar j) tNil))) [j]) tNil)) σ H (n + 1) (rsD (rsT t)) := fun H1 e1 nb Q q => by
  have few : (Txt.split t (Str.ofString ",")).length ≤ 1000 := by
    have := PyProof.Rows.split_le t (Str.ofString ",")
    omega
  have hp1 := (dl_some (e1 _ _ hp)).2
  have el := lc_valsK (te := tIf (tTest (tOp rEq (tVar j) (tC (V.str (Str.ofString "-"))))) (tC V.non) (tCB (fun xs H Q => ∃ a n, xs = [V.str a] ∧ intText? a = some n ∧ a.length ≤ 640 ∧ Q (V.int n) H) (tCons (tVar j) tNil))) (σ := σ) (H := H1) (vs := [j]) (yl := yPl ((Txt.split t (Str.ofString ",")).map V.str)) (n := (Txt.split t (Str.ofString ",")).length) (fun k => optV ((rsT t).getD k none))
    (wi := iList K (tVar i)) (fun H6 e6 R r => ⟨_, hv, p, rfl, ⟨_, SqL.of (e6 _ _ hp1)⟩, r (Itl K p) H6 (Ex.refl H6) (wk_parts e6 hp1)⟩) few (fun _ _ _ _ h => h.1) hw fun k y H6 e6 hk yl => by
      obtain ⟨u, hu⟩ : ∃ u, (Txt.split t (Str.ofString ","))[k]? = some u := ⟨_, List.getElem?_eq_getElem hk⟩
      have hy := yl.2
      rw [List.getElem?_map, hu] at hy
      have ey : y = .str u := (Option.some.inj hy).symm
      subst ey
      have er : (rsT t).getD k none = (partO u).getD none := by
        unfold rsT
        rw [List.getD_eq_getElem?_getD, List.getElem?_map, hu]
        rfl
      rw [er]
      have some1 := List.all_eq_true.mp g u (List.mem_of_getElem? hu)
      unfold partO at some1 ⊢
      by_cases hd : u = Str.ofString "-"
      · rw [if_pos hd]
        exact ev_if (b := true) (et_test (ev_is (ev_op (ev_var (hi _)) ev_c (rv_eq rfl)) (congrArg V.bl (decide_eq_true (by rw [hd]))))) (fun _ => ev_c) (fun h => nomatch h)
      · rw [if_neg hd] at some1 ⊢
        cases hn : numW u with
        | none => rw [hn] at some1; cases some1
        | some m =>
          have pi := part_int hn
          exact ev_if (b := false) (et_test (ev_is (ev_op (ev_var (hi _)) ev_c (rv_eq rfl)) (congrArg V.bl (decide_eq_false (fun q => hd (by injection q)))))) (fun h => nomatch h) (fun _ H7 e7 Q7 q7 => ⟨_, hi _, u, m, rfl, pi.1, by omega, q7 H7 (Ex.refl _)⟩)
  have ex : ((List.range (Txt.split t (Str.ofString ",")).length).map fun k => optV ((rsT t).getD k none)) = (rsT t).map optV := by
    apply List.ext_getElem
    · simp [rsT]
    · intro i a b
      simp [rsT] at a b
      simp [List.getD_eq_getElem?_getD, rsT, a]
  rw [ex] at el
  exact tup_of5 el fun l H' hl e' h' => q _ H' e' (has_rs (dl_of (fun z => nb (by rw [← z]; exact hl)) h') (rsT_len tf))
end
section
variable {P : Program} {w : World} {K : PySem.W.Frag} {mg : Str → Option Value} {base : Heap} {f : Addr} {fd : FuncData}
theorem scW : FnScope ["_law_script", "_law_bag_here", "_law_turn", "_law_report_z", "_law_text_z", "_law_at", "_law_bent", "_law_parts", "_law_good", "_law_due", "_law_odd", "_law_k", "_law_one", "_law_part"] ["_law_script"] (defScope sLaw) := ⟨rfl, rfl, rfl, by decide +kernel, rfl, by decide +kernel, by decide +kernel⟩
abbrev XL (P : Program) (w : World) (K : PySem.W.Frag) (mg : Str → Option Value) (base : Heap) (f c : Addr) (A : Around) (outer : List Env) (s : Shared) (H : Hp) (E : XK) : Cx := (cxOf CX0 P w K mg base ["_law_script", "_law_bag_here", "_law_turn", "_law_report_z", "_law_text_z", "_law_at", "_law_bent", "_law_parts", "_law_good", "_law_due", "_law_odd", "_law_k", "_law_one", "_law_part"] "law" (defScope sLaw) f (.ref c) A outer s H E).nox
theorem lamW {scope : Scope} (h : lamS2B ["_law_script", "_law_bag_here", "_law_turn", "_law_report_z", "_law_text_z", "_law_at", "_law_bent", "_law_parts", "_law_good", "_law_due", "_law_odd", "_law_k", "_law_one", "_law_part"] (defScope sLaw) scope = true) : LamS2 ["_law_script", "_law_bag_here", "_law_turn", "_law_report_z", "_law_text_z", "_law_at", "_law_bent", "_law_parts", "_law_good", "_law_due", "_law_odd", "_law_k", "_law_one", "_law_part"] (defScope sLaw) scope := lamS2_by h
theorem ok_law {dV kV doc pm ct oc : Value} {an od : Option Addr} {osl : Array (Option Value)} {c PT : Addr} (lk : K.lookup f = some ⟨oc, od, .func (PySem.W.fnOf "law" "law" (defArgs sLaw) (defBody sLaw) (defScope sLaw) dV kV doc pm an (.ref c) ct), osl⟩) (hcd : PySem.W.codeIn K (.ref c) "law" = true)
    (G : Gk P w K mg base) (TB : TabB base mg c PT) : FnOk P w K mg base CX0 18 f (PySem.W.fnOf "law" "law" (defArgs sLaw) (defBody sLaw) (defScope sLaw) dV kV doc pm an (.ref c) ct) ["_law_script"] (spLaw K (TL PT)) := by
  have kbRt := kb_rt G.FRt
  have kbRr := kb_rr G.FRr
  refine fn_of lk hcd scW (fun vs H Q E h => ?_) (fun A outer s0 H vs Q E hr h => ?_)
  · obtain ⟨a, ns, rfl, _⟩ := h
    rfl
  · obtain ⟨a, ns, rfl, hS, hl, hT, k⟩ := h
    refine ⟨_, PSs.nox (pss_cons (ps_set (i := 1) scW.nd rfl (Or.inr rfl) (pe_call G.GBag (hr.mono (by decide)) rfl G.gBag G.kBag G.bBag .nil pass0 (pa_cons (pv 0) pa_nil)))
      (pss_cut (ps_for PassesOwn.never rfl (pi_range1 (by rfl) G.brange (pa_cons pe_int pa_nil)) (pg_name (i := 2) scW.nd rfl (Or.inl rfl)) (pss_cons (ps_set (i := 3) scW.nd rfl (Or.inl rfl) (pe_callTy (call_tuple_ofK (K := K)) (by rfl) G.T.b.tup PyProof.Rows.boot_tuple (pa_cons (pe_lc (own := [("_law_k", 11)]) (g := (gName 11)) (tt := tYes) (by rfl) scW.nd (pi_range1 (by rfl) G.brange (pa_cons (pe_op op_add pe_int (pe_call G.GPull (hr.mono (by decide)) rfl G.gPull G.kPull G.bPull .nil pass0 (pa_cons (pv 1) (pa_cons pe_int pa_nil)))) pa_nil)) (blkOk_by (own := [("_law_k", 11)]) (N := ["_law_script", "_law_bag_here", "_law_turn", "_law_report_z", "_law_text_z", "_law_at", "_law_bent", "_law_parts", "_law_good", "_law_due", "_law_odd", "_law_k", "_law_one", "_law_part"]) (sc := defScope sLaw) (by decide +kernel)) (fun _ _ _ _ _ => pg_name (i := 11) scW.nd rfl (Or.inl rfl)) (fun _ _ _ _ _ => pts_nil) (fun _ _ _ _ _ => (pe_call G.GOf (hr.mono (by decide)) rfl G.gOf G.kOf G.bOf .nil pass0 (pa_cons (pv 1) (pa_cons (pe_lst (pa_cons pe_non (pa_cons pe_int (pa_cons (pe_call G.GPull (hr.mono (by decide)) rfl G.gPull G.kPull G.bPull .nil pass0 (pa_cons (pv 1) (pa_cons pe_int pa_nil))) (pa_cons (pe_op op_pow pe_int pe_int) (pa_cons (pe_call G.GPull (hr.mono (by decide)) rfl G.gPull G.kPull G.bPull .nil pass0 (pa_cons (pv 1) (pa_cons pe_int pa_nil))) pa_nil)))))) pa_nil))))) pa_nil)))
      (pss_cons (ps_set (i := 4) scW.nd rfl (Or.inl rfl) (pe_join pe_str (pe_lc (own := [("_law_one", 12)]) (g := (gName 12)) (tt := tYes) (by rfl) scW.nd (pi_tup (pv 3)) (blkOk_by (own := [("_law_one", 12)]) (N := ["_law_script", "_law_bag_here", "_law_turn", "_law_report_z", "_law_text_z", "_law_at", "_law_bent", "_law_parts", "_law_good", "_law_due", "_law_odd", "_law_k", "_law_one", "_law_part"]) (sc := defScope sLaw) (by decide +kernel)) (fun _ _ _ _ _ => pg_name (i := 12) scW.nd rfl (Or.inl rfl)) (fun _ _ _ _ _ => pts_nil) (fun _ _ _ _ _ => (pe_ifExp (pt_cmp (pc_isN (pv 12))) pe_str (pe_callTy call_str_int (by rfl) G.T.str (by decide +kernel) (pa_cons (pv 12) pa_nil)))))))
      (pss_cons (ps_if (pt_not (pt_val (pe_call G.GSame (hr.mono (by decide)) rfl G.gSame G.kSame G.bSame .nil pass0 (pa_cons (pe_lst (pa_cons (pe_callN0 G.GRt (hr.mono (by decide)) rfl G.gRt G.kRt kbRt pass0 (pk_cons (pv 3) pk_nil)) (pa_cons (pe_call G.GRr (hr.mono (by decide)) rfl G.gRr G.kRr G.bRr .nil pass0 (pa_cons (pv 4) pa_nil)) pa_nil))) (pa_cons (pe_lst (pa_cons (pv 4) (pa_cons (pv 3) pa_nil))) pa_nil))))) (pss_one (ps_ret pe_bl)) pss_nil)
      (pss_cons (ps_set (i := 5) scW.nd rfl (Or.inl rfl) (pe_call G.GPull (hr.mono (by decide)) rfl G.gPull G.kPull G.bPull .nil pass0 (pa_cons (pv 1) (pa_cons (pe_op op_add (pe_callB call_len_str (by rfl) G.T.len PySem.boot_len (pa_cons (pv 4) pa_nil)) pe_int) pa_nil))))
      (pss_cons (ps_set (i := 6) scW.nd rfl (Or.inr rfl) (pe_op op_add_str (pe_op op_add_str (pe_slice sl_str (pv 4) po_none (po_some (pv 5))) (pe_call G.GOf (hr.mono (by decide)) rfl G.gOf G.kOf G.bOf .nil pass0 (pa_cons (pv 1) (pa_cons (pe_lst (pa_cons pe_str (pa_cons pe_str (pa_cons pe_str (pa_cons pe_str (pa_cons pe_str (pa_cons pe_str (pa_cons pe_str pa_nil)))))))) pa_nil)))) (pe_slice sl_str (pv 4) (po_some (pe_op op_add (pv 5) (pe_call G.GPull (hr.mono (by decide)) rfl G.gPull G.kPull G.bPull .nil pass0 (pa_cons (pv 1) (pa_cons pe_int pa_nil))))) po_none)))
      (pss_cons (ps_set (i := 7) scW.nd rfl (Or.inl rfl) (pe_split (pv 6) pe_str))
      (pss_cons (ps_set (i := 8) scW.nd rfl (Or.inl rfl) (pe_callB (cr_all rfl) (by rfl) G.T.all PyProof.Rows.boot_all (pa_cons (pe_lc (own := [("_law_part", 13)]) (g := (gName 13)) (tt := tYes) (by rfl) scW.nd (pi_list (pv 7)) (blkOk_by (own := [("_law_part", 13)]) (N := ["_law_script", "_law_bag_here", "_law_turn", "_law_report_z", "_law_text_z", "_law_at", "_law_bent", "_law_parts", "_law_good", "_law_due", "_law_odd", "_law_k", "_law_one", "_law_part"]) (sc := defScope sLaw) (by decide +kernel)) (fun _ _ _ _ _ => pg_name (i := 13) scW.nd rfl (Or.inl rfl)) (fun _ _ _ _ _ => pts_nil) (fun _ _ _ _ _ => (pe_or (pe_cmpR op_eq (pv 13) pe_str (nomark _)) (pe_one (pe_call G.GDg (hr.mono (by decide)) rfl G.gDg G.kDg G.bDg .nil pass0 (pa_cons (pv 13) pa_nil)))))) pa_nil)))
      (pss_cons (ps_set (i := 9) scW.nd rfl (Or.inl rfl) (pe_ifExp (pt_val (pv 8)) (pe_tup (pa_cons pe_str (pa_cons (pe_callTy (call_tuple_ofK (K := K)) (by rfl) G.T.b.tup PyProof.Rows.boot_tuple (pa_cons (pe_lc (own := [("_law_part", 13)]) (g := (gName 13)) (tt := tYes) (by rfl) scW.nd (pi_list (pv 7)) (blkOk_by (own := [("_law_part", 13)]) (N := ["_law_script", "_law_bag_here", "_law_turn", "_law_report_z", "_law_text_z", "_law_at", "_law_bent", "_law_parts", "_law_good", "_law_due", "_law_odd", "_law_k", "_law_one", "_law_part"]) (sc := defScope sLaw) (by decide +kernel)) (fun _ _ _ _ _ => pg_name (i := 13) scW.nd rfl (Or.inl rfl)) (fun _ _ _ _ _ => pts_nil) (fun _ _ _ _ _ => (pe_ifExp (pt_cmpR op_eq (pv 13) pe_str (nomark _)) pe_non (pe_callTy call_int_str (by rfl) G.T.int (by decide +kernel) (pa_cons (pv 13) pa_nil))))) pa_nil)) pa_nil))) (pe_tup (pa_cons pe_str (pa_cons pe_non pa_nil)))))
      (pss_cons (ps_if (pt_not (pt_val (pe_call G.GSame (hr.mono (by decide)) rfl G.gSame G.kSame G.bSame .nil pass0 (pa_cons (pe_callB (kk := 10) (E := E0) G.GTry (hr.mono (by decide)) rfl G.gTry G.kTry G.bTry .nil pass0 (fun _ => rfl) (pa_cons (pe_lam0 TB rfl (List.mem_singleton_self _) (lam_u _ _) (lamW (by decide +kernel)) rfl rfl) pa_nil)) (pa_cons (pv 9) pa_nil))))) (pss_one (ps_ret pe_bl)) pss_nil)
      (pss_cons (ps_set (i := 10) scW.nd rfl (Or.inr rfl) (pe_call G.GOf (hr.mono (by decide)) rfl G.gOf G.kOf G.bOf .nil pass0 (pa_cons (pv 1) (pa_cons (pe_lst (pa_cons pe_str (pa_cons pe_str (pa_cons pe_str (pa_cons pe_str (pa_cons pe_str (pa_cons pe_str (pa_cons (pe_op op_mulS pe_str pe_int) (pa_cons pe_non (pa_cons pe_int (pa_cons (pe_tup (pa_cons pe_str pa_nil)) (pa_cons pe_bl pa_nil)))))))))))) pa_nil))))
      (pss_one (ps_if (pt_not (pt_val (pe_call G.GSame (hr.mono (by decide)) rfl G.gSame G.kSame G.bSame .nil pass0 (pa_cons (pe_callB (kk := 10) (E := E0) G.GTry (hr.mono (by decide)) rfl G.gTry G.kTry G.bTry .nil pass0 (fun _ => rfl) (pa_cons (pe_lam0 TB rfl (List.mem_singleton_self _) (lam_u _ _) (lamW (by decide +kernel)) rfl rfl) pa_nil)) (pa_cons (pe_tup (pa_cons pe_str (pa_cons pe_non pa_nil))) pa_nil))))) (pss_one (ps_ret pe_bl)) pss_nil)))))))))))))
      (pss_one (ps_ret (pe_cmpR (op_eqD hr.units) (pe_call G.GRr (hr.mono (by decide)) rfl G.gRr G.kRr G.bRr .nil pass0 (pa_cons pe_str pa_nil)) (pe_tup (pa_cons pe_non pa_nil)) (nomark _)))))), ?_⟩
    have es0 : L2.start (["_law_script", "_law_bag_here", "_law_turn", "_law_report_z", "_law_text_z", "_law_at", "_law_bent", "_law_parts", "_law_good", "_law_due", "_law_odd", "_law_k", "_law_one", "_law_part"] : List Str) [V.ref a] = [some (V.ref a), none, none, none, none, none, none, none, none, none, none, none, none, none] := rfl
    rw [es0]
    clear es0
    refine ⟨_, rfl, a, ns, rfl, hS, hl, fun b l zs Ha sm nb nl B => ?_⟩
    have hTa : Tabs (TL PT) (dl b Ha) := tabs_dl B (hT.ext sm)
    clear nb nl sm hS hT
    dsimp only [List.set, gName]
    refine ⟨fun σ' H' => ∃ b l zs, Bag H' b l zs, ⟨10, rfl, by decide, by decide, ?_⟩, ?_⟩
    case refine_2 =>
      rintro σ' H' ⟨b, l, zs, B⟩
      clear B
      -- read_report('-') == (None,)
      refine ⟨Str.ofString "-", [none], rfl, by decide, by decide +kernel, fun T H1 hT e1 h1 => ⟨(by show 1 ≤ sizeLine; decide), fun p hp => ?_⟩⟩
      have hT2 : Has (upd H1 p (.tup [V.non])) 1 (.ref T) (.t [.f .non]) := has_rs (rs := [none]) (Ex.new hp _ _ h1) (by decide)
      have hp2 : Has (upd H1 p (.tup [V.non])) 1 (.ref p) (.t [.f .non]) := has_rs (rs := [none]) upd_same (by decide)
      refine ⟨_, _, dp_has 1 _ _ hT2, dp_has 1 _ _ hp2, shaped_has hT2 (by decide +kernel) (by decide), shaped_has hp2 (by decide +kernel) (by decide), ?_⟩
      have z : PyData.eqv (pyD (.t [.f .non])) (pyD (.t [.f .non])) = true := by decide +kernel
      rw [z]
      exact k _
    refine for_range (n := 10) (fun _ σ' H' => (∃ u2 u3 u4 u5 u6 u7 u8 u9 u10 u11 u12 u13 : Option V, σ' = [some (.ref a), some (.ref b), u2, u3, u4, u5, u6, u7, u8, u9, u10, u11, u12, u13]) ∧ Bag H' b l zs ∧ Tabs (TL PT) (dl b H')) ⟨⟨none, none, none, none, none, none, none, none, none, none, none, none, rfl⟩, B, hTa⟩ ?_ (fun _ _ h => ⟨b, l, zs, h.2.1⟩)
    rintro i0 σ' H' hi0 ⟨⟨u2, u3, u4, u5, u6, u7, u8, u9, u10, u11, u12, u13, rfl⟩, hB, hT⟩
    clear B hTa
    dsimp only [List.set, gName]
    -- the report
    refine ⟨_, rfl, b, l, zs, 6, rfl, by decide, by decide, hB, fun r1 H1 r10 r11 B1 h1 => ⟨1, r1, rfl, rfl, 1 + r1, rfl, by omega, by omega, fun D hD => ?_⟩⟩
    have Db : D ≠ b := fun z => bag_some B1 (by rw [← z]; exact hD)
    have lD : l ≠ D := fun z => by
      obtain ⟨_, h, _⟩ := B1
      rw [z, hD] at h
      cases h
    have e0 := Ex.new (o := .lst []) hD
    refine lc_any (J := Itr 0 (1 + r1).toNat) (n := (1 + r1).toNat) (fun i H' => ∃ rs : List (Option Nat), rs.length = i ∧ (∀ n, some n ∈ rs → n ≤ 10 ^ 30) ∧ dl b H' D = some (.lst (rs.map optV)) ∧ Bag H' b l zs ∧ Ex (dl b H1) (dl b H'))
      ⟨[], rfl, (fun _ h => nomatch h), dl_of Db upd_same, bag_ex B1 e0, dl_up e0⟩ (fun i H' hi _ => hi) (fun H' _ => Nat.le_refl _) ?_ ?_
    · rintro i H11 y H12 hi ⟨rs, lr, big, hDl, B11, e11⟩ ⟨rfl, rfl⟩
      refine ⟨rfl, tt_yes ⟨_, rfl, ?_⟩⟩
      refine vd_pull B11 (by rfl) ev_c (by decide) (by decide) fun p1 H13 p10 p11 B13 e13 => ⟨_, _, rfl, rfl, (by unfold CPow; decide), ?_⟩
      refine vd_pull B13 (by rfl) ev_c (by decide) (by decide) fun p2 H14 p20 p21 B14 e14 => ⟨(by show 5 ≤ sizeLine; decide), fun p hp => ?_⟩
      have pb : p ≠ b := fun z => bag_some B14 (by rw [← z]; exact hp)
      have e15 := Ex.new (o := .lst [V.non, .int 0, .int p1, .int (10 ^ 30), .int p2]) hp
      refine ⟨b, l, p, zs, [V.non, .int 0, .int p1, .int (10 ^ 30), .int p2], rfl, SqL.of (by rw [upd_same]; rfl), by simp, by simp, pb, (fun H' hB => SqL.of (by rw [hB p pb, upd_same]; rfl)), bag_ex B14 e15, fun kk v H16 hk B16 h16 => ?_⟩
      obtain ⟨o, rfl, ob⟩ := five52 p10 p11 p20 p21 hk
      have e16 := ((e13.trans e14).trans (dl_up e15)).trans (dl_but h16)
      have hD16 := e16 _ _ hDl
      refine ⟨_, (dl_some hD16).2, small1000 (by simp; omega), rs ++ [o], by simp [lr], fun n hn => ?_, ?_, bag_put B16 Db lD.symm, dl_mut2 (e11.trans e16) hD⟩
      · rcases List.mem_append.mp hn with h | h
        · exact big n h
        · exact ob n (List.mem_singleton.mp h).symm
      · rw [List.map_append]
        exact dl_of Db upd_same
    rintro H2 ⟨rs, lr, big, hDl, B2, e2⟩
    refine ⟨D, _, rfl, .inl ⟨SqL.of (dl_some hDl).2, fun T hT2 => ?_⟩⟩
    have few : rs.length ≤ 6 := by omega
    have ne : rs ≠ [] := fun z => by rw [z] at lr; simp at lr; omega
    have e3 := Ex.new (o := .tup (rs.map optV)) hT2
    have B3 := bag_ex B2 e3
    have hT3 : dl b (upd H2 T (.tup (rs.map optV))) T = some (.tup (rs.map optV)) := dl_new (bag_some B2) hT2
    have hTa := ((hT.ext (dl_but h1)).ext e2).ext (dl_up e3)
    revert B3 hT3 hTa
    generalize upd H2 T (.tup (rs.map optV)) = H3
    intro B3 hT3 hTa
    clear e3 hT2 B2 e2 hDl e0 lD Db hD B1 h1 hB hT
    dsimp only [List.set, gName]
    -- its text
    refine q_asg (ev_repT (i := 3) (j := 12) (K := K) (rs := rs) (fun _ => rfl) (fun _ => rfl) rfl (dl_some hT3).2 (by omega) big) fun H4 e4 => ?_
    have hTb := hTa.ext (dl_up e4)
    have B4 := bag_ex B3 e4
    have hT4 := dl_up e4 _ _ hT3
    clear e4 hTa B3 hT3
    dsimp only [List.set, gName]
    have prt := repT_parts ne big
    have tl192 : (repT rs).length ≤ 192 := by have := repT_len big; omega
    have hR : Has (dl b H4) 1 (.ref T) (rsD rs) := has_rs hT4 (by omega)
    refine q_when (b := false) (et_not (a := true) (et_B (fun H5 e5 Q5 q5 => vd_same (b := b) (n := 3) (c := true) (vd_lst (n := 2) (vda_cons (vd_rt (i := 3) rfl (dl_up e5 _ _ hT4) (by omega) big).up (vda_cons (vd_rr (n := 1) (i := 4) rfl (by omega) prt) vda_nil)) (by simp)) (vd_lst (n := 2) (vda_cons (vd_f (v := .str (repT rs)) (ev_var rfl) True.intro) (vda_cons (vd_var rfl (hR.up.ex (dl_up e5))) vda_nil)) (by simp)) ⟨fun _ => rfl, fun _ => rfl⟩ (up_ne (bag_some B4) e5) q5))) (fun h => nomatch h) fun _ H5 e5 => ?_
    have hTc := hTb.ext (dl_up e5)
    have B5 := bag_ex B4 e5
    clear e5 hTb B4 hT4 hR prt
    -- bent
    refine vd_pull B5 (by rfl) (ev_addI (ev_lenX (ev_var rfl) (by omega)) ev_c) (by omega) (by omega) fun k1 H6 k10 k11 B6 e6 => ?_
    have hTd := hTc.ext e6
    clear e6 hTc B5
    obtain ⟨k1, rfl⟩ : ∃ k : Nat, k1 = (k : Int) := ⟨k1.toNat, by omega⟩
    dsimp only [List.set, gName]
    refine ⟨_, rfl, _, rfl, _, rfl, _, rfl, sz_of (by omega), ?_⟩
    refine vd_of (n := 1) (ds := ins52) B6 (by rfl) (vda_cons vd_c (vda_cons vd_c (vda_cons vd_c (vda_cons vd_c (vda_cons vd_c (vda_cons vd_c (vda_cons vd_c vda_nil))))))) (by simp [ins52]) (by simp [ins52]) fun k2 v2 d2 H7 m2 h2 B7 e7 => ?_
    obtain ⟨z2, rfl, l2⟩ := ins52_short d2 (List.mem_of_getElem? m2)
    obtain ⟨_, rfl⟩ := has_fl h2
    have c1 := cutS_length (repT rs) none (some (k1 : Int))
    refine ⟨_, _, rfl, rfl, sz_of (by omega), ?_⟩
    refine ⟨_, rfl, _, rfl, ?_⟩
    refine vd_pull B7 (by rfl) ev_c (by decide) (by decide) fun k3 H8 k30 k31 B8 e8 => ⟨_, _, rfl, rfl, _, rfl, _, rfl, sz_of (by omega), ?_⟩
    have c2 := cutS_length (repT rs) (some ((k1 : Int) + k3)) none
    have c3 : (cutS (repT rs) none (some (k1 : Int)) ++ z2).length = (cutS (repT rs) none (some (k1 : Int))).length + z2.length := Str.length_append _ _
    refine ⟨_, _, rfl, rfl, sz_of (by omega), ?_⟩
    have tf : (cutS (repT rs) none (some (k1 : Int)) ++ z2 ++ cutS (repT rs) (some ((k1 : Int) + k3)) none).length ≤ 900 := by
      have c4 : (cutS (repT rs) none (some (k1 : Int)) ++ z2 ++ cutS (repT rs) (some ((k1 : Int) + k3)) none).length = (cutS (repT rs) none (some (k1 : Int)) ++ z2).length + (cutS (repT rs) (some ((k1 : Int) + k3)) none).length := Str.length_append _ _
      omega
    revert tf
    generalize cutS (repT rs) none (some (k1 : Int)) ++ z2 ++ cutS (repT rs) (some ((k1 : Int) + k3)) none = t
    intro tf
    have hTe := (hTd.ext e7).ext e8
    clear c1 c2 c3 k30 k31 l2 m2 h2 e7 e8 B7 B6 hTd
    dsimp only [List.set, gName]
    -- its parts
    refine ⟨_, rfl, ⟨_, rfl⟩, t, _, rfl, rfl, by decide, sz_of (by omega), fun p hp => ?_⟩
    have e9 := Ex.new (o := .lst ((Txt.split t (Str.ofString ",")).map V.str)) hp
    have hp9 : dl b (upd H8 p (.lst ((Txt.split t (Str.ofString ",")).map V.str))) p = some (.lst ((Txt.split t (Str.ofString ",")).map V.str)) := dl_new (bag_some B8) hp
    have B9 := bag_ex B8 e9
    have hTf := hTe.ext (dl_up e9)
    revert hp9 B9 hTf
    generalize upd H8 p (.lst ((Txt.split t (Str.ofString ",")).map V.str)) = H9
    intro hp9 B9 hTf
    clear e9 hp B8 hTe
    dsimp only [List.set, gName]
    refine q_asg (ev_goodT (i := 7) (j := 13) (K := K) (t := t) (fun _ => rfl) (fun _ => rfl) rfl (dl_some hp9).2 tf) fun H10 e10 => ?_
    have hp10 := dl_up e10 _ _ hp9
    have B10 := bag_ex B9 e10
    have hTg := hTf.ext (dl_up e10)
    clear e10 B9 hTf hp9
    dsimp only [List.set, gName]
    refine q_asgD (b := b) (n := 3) (d := D52 t) (vd_if (c := goodT t) (et_B (ev_var rfl)) (fun g => VD.cast (vd_tup (n := 2) (vda_cons vd_c (vda_cons (vd_rsT (i := 7) (j := 13) (K := K) (n := 1) (fun _ => rfl) (fun _ => rfl) rfl hp10 tf g) vda_nil)) (by simp)) (by unfold D52; rw [if_pos g])) (fun g => VD.cast (vd_tup (n := 2) (vda_cons vd_c (vda_cons vd_c vda_nil)) (by simp)) (by unfold D52; rw [if_neg (by rw [g]; exact Bool.false_ne_true)]))) (bag_some B10) fun v9 H11 e11 h11 => ?_
    have B11 := bag_ex B10 e11
    have hTh := hTg.ext (dl_up e11)
    clear e11 B10 hTg hp10
    dsimp only [List.set, gName]
    -- read_report(text=bent)
    refine try_lam (X := XL P w K mg base f c A outer s0 H E) (kk := 10) (C1 := He.ga K "TeamError") (C2 := He.ga K "Missing") (C3 := He.ga K "NothingLeft") (n := 2) (d := D52 t) hTh B11
      (LamTold.mk (lamW (by decide +kernel)) (.no rfl (fun _ _ _ _ _ _ => rfl)) fun b1 A1 o1 s1 H1 E1 f1 c1 hr1 => (pe_callN0 (G.GRx b1) (hr1.mono (by decide)) rfl G.gRr G.kRr kbRr (passes_call (E := E1) (takes_of rfl rfl rfl rfl) (fun _ _ _ _ h => h)) (pk_cons (pe_var (i := 6) rfl (.inr (.inr rfl))) pk_nil))) (fun H5 f5 c5 dV5 e5 a5 => ?_) fun v H12 e12 B12 hTi hv => ?_
    · by_cases g : goodT t = true
      · unfold D52
        rw [if_pos g]
        exact ask_val a5 fun H' Q E e q => vl_rr rfl tf g q
      · unfold D52
        rw [if_neg g]
        exact ask_rz0 a5 G.eT rfl fun H' Q E e r => rz_rr rfl tf (Bool.eq_false_iff.mpr g) r
    refine ⟨_, rfl, v, v9, _, _, rfl, hv.up.ex dl_ex, (h11.extN e12).ex dl_ex, fun b2 H13 hb2 e13 => ?_⟩
    have z2 : b2 = true := hb2.mpr rfl
    subst z2
    refine ⟨true, rfl, iteF ?_⟩
    have B13 := bag_ex B12 e13
    have hTj := hTi.ext (dl_up e13)
    clear e13 hb2 B12 hTi hv e12 B11 hTh h11
    unfold tNext
    dsimp only
    -- an odd value
    refine vd_of (n := 1) (ds := odd52) B13 (by rfl) (vda_cons vd_c (vda_cons vd_c (vda_cons vd_c (vda_cons vd_c (vda_cons vd_c (vda_cons vd_c (vda_cons (vd_f (v := .str (Txt.mul "1" 32)) (fun H1 e1 Q q => ⟨_, 32, rfl, rfl, by decide, by decide, q H1 (Ex.refl _)⟩) True.intro) (vda_cons vd_c (vda_cons vd_c (vda_cons (vd_tup (n := 0) (vda_cons vd_c vda_nil) (by simp)) (vda_cons vd_c vda_nil))))))))))) (by simp [odd52]) (by simp [odd52]) fun k5 v5 d5 H14 m5 h5 B14 e14 => ?_
    have no5 := odd52_no d5 (List.mem_of_getElem? m5)
    have hTk := hTj.ext e14
    clear m5 e14 B13 hTj
    dsimp only [List.set, gName]
    refine try_lam (X := XL P w K mg base f c A outer s0 H E) (kk := 10) (C1 := He.ga K "TeamError") (C2 := He.ga K "Missing") (C3 := He.ga K "NothingLeft") (n := 2) (d := .t [.f (.str "InvalidText"), .f .non]) hTk B14
      (LamTold.mk (lamW (by decide +kernel)) (.no rfl (fun _ _ _ _ _ _ => rfl)) fun b1 A1 o1 s1 H1 E1 f1 c1 hr1 => (pe_call (G.GRx b1) (hr1.mono (by decide)) rfl G.gRr G.kRr G.bRr .nil (passes_call (E := E1) (takes_of rfl rfl rfl rfl) (fun _ _ _ _ h => h)) (pa_cons (pe_var (i := 10) rfl (.inr (.inr rfl))) pa_nil))) (fun H15 f5 c5 dV5 e5 a5 => ?_) fun v H15 e15 B15 hTl hv => ?_
    · exact ask_rz0 a5 G.eT rfl fun H' Q E e r => rz_odd (i := 10) rfl ((h5.extN e5).ex e) no5 r
    refine (vd_tup (b := b) (n := 2) (vda_cons vd_c (vda_cons vd_c vda_nil)) (by simp)) H15 (Ex.refl _) (bag_some B15) _ fun v2 H16 e16 hv2 => ?_
    refine ⟨v, v2, _, _, rfl, (hv.up.ex (dl_up e16)).ex dl_ex, hv2.ex dl_ex, fun b2 H17 hb2 e17 => ?_⟩
    have z2 : b2 = true := hb2.mpr rfl
    subst z2
    exact ⟨true, rfl, iteF ⟨⟨_, _, _, _, _, _, _, _, _, _, _, _, rfl⟩, bag_ex B15 (e16.trans e17), hTl.ext (dl_up (e16.trans e17))⟩⟩
end
end K52

-- base: law_k52_report_texts
/-! the facts by names -/
namespace K52
open PySem L2 Evl OxK
theorem ba {a b : Bool} (h : (a && b) = true) : a = true ∧ b = true := Bool.and_eq_true_iff.mp h
theorem raw {P : Program} {w : World} {K : PySem.W.Frag} {mg : Str → Option Value} {base : Heap} {k : Nat} {f : Addr} {fd : FuncData} {ps : List Str} {sp : Sp} (F : FnOk P w K mg base CX0 k f fd ps sp) (b : Binds K fd ps []) : FnR P w K mg base CX0 k f sp :=
  (F.raw b .nil).imp fun vs H Q E h => by rw [List.append_nil]; exact h
theorem facts {P : Program} {w : World} {K : PySem.W.Frag} {h : Heap} {mg : Str → Option Value} {f : Addr} (X : K.In h) (G : h.Ns mainGlobals mg) (hfa : mg ("law" : Str) = some (.ref f)) (d : HkZ.SaysZ fa fn exB h K) :
    ∃ fd : FuncData, ∃ c PT : Addr, (c = (He.cT K HkZ.lawD).1 ∧ PT = (He.cT K HkZ.lawD).2) ∧ (∀ (s : Shared) (v : Value), BindsTo s fd ⟨[v], []⟩ [("_law_script", v)]) ∧ ∀ base : Heap, LamX.TabB base mg c PT → FnOk P w K mg base CX0 18 f fd ["_law_script"] (spLaw K (TL PT)) := by
  have c := d.y
  obtain ⟨x1, m⟩ := ba (show exB K = true from c.more)
  have x2 := m
  obtain ⟨fd0, F0⟩ := c.def_ 0 rfl
  obtain ⟨fd1, F1⟩ := c.def_ 1 rfl
  obtain ⟨fd2, F2⟩ := c.def_ 2 rfl
  obtain ⟨fd3, F3⟩ := c.def_ 3 rfl
  obtain ⟨fd4, F4⟩ := c.def_ 4 rfl
  obtain ⟨fd5, F5⟩ := c.def_ 5 rfl
  obtain ⟨fd6, F6⟩ := c.def_ 6 rfl
  obtain ⟨fd7, F7⟩ := c.def_ 7 rfl
  obtain ⟨fd8, F8⟩ := c.def_ 8 rfl
  obtain ⟨fd9, F9⟩ := c.def_ 9 rfl
  obtain ⟨fd10, F10⟩ := c.def_ 10 rfl
  obtain ⟨fd11, F11⟩ := c.def_ 11 rfl
  obtain ⟨fd12, F12⟩ := c.def_ 12 rfl
  have e := hfa.symm.trans (He.glo_ok X G (c.fact 9 (f := .glo "law") rfl))
  cases e
  have bLw := FunD.bindsA (ps := ["_law_script"]) F9 fun _ _ _ _ _ _ us hl => match us, hl with | [_], _ => rfl
  obtain ⟨ocL, odL, dVL, kVL, docL, pmL, anL, cdvL, ctL, oslL, eL, lkL, hcdL, _, _⟩ := F9.ex
  obtain ⟨cL, eC⟩ := He.codeIn_ref hcdL
  subst eC
  subst eL
  have ecL : He.codeOf K HkZ.lawD = cL := He.codeOf_eq lkL rfl
  refine ⟨_, cL, (He.cT K HkZ.lawD).2, ⟨ecL.symm, rfl⟩, fun s v => bLw s [v] rfl, fun base TB => ?_⟩
  have B : NoB mg := ⟨(He.free_ok X G (c.fact 10 (f := .free "isinstance") rfl)), (He.free_ok X G (c.fact 11 (f := .free "list") rfl)), (He.free_ok X G (c.fact 12 (f := .free "tuple") rfl))⟩
  have T : NoS mg := ⟨B, (He.free_ok X G (c.fact 13 (f := .free "bool") rfl)), (He.free_ok X G (c.fact 14 (f := .free "int") rfl)), (He.free_ok X G (c.fact 15 (f := .free "str") rfl)), (He.free_ok X G (c.fact 16 (f := .free "len") rfl)), (He.free_ok X G (c.fact 17 (f := .free "all") rfl)), (He.free_ok X G (c.fact 18 (f := .free "zip") rfl))⟩
  have RInvalidText : RaC K mg "InvalidText" (He.ga K "InvalidText") (He.ma K (He.ga K "InvalidText") "__init__") := raB_ok x1 (He.glo_ok X G (c.fact 38 (f := .glo "InvalidText") rfl))
  have hX : ∀ base : Heap, FnOk P w K mg base (L2.CX P w) 4 (He.ga K "read_report") fd3 ["text"] (spRrE K (He.ga K "InvalidText")) := by
    intro base
    have Gnumber_in : FnOk P w K mg base CX0 1 (He.ga K "number_in") fd0 ["word"] spNin := ok_nin  F0 T (He.int_ok X G (c.fact 30 (f := .int "MOST_DIGITS" 31) rfl))
    have bnumber_in : Binds K fd0 ["word"] [] := (FunD.bindsN F0 fun _ _ _ _ _ _ us hl => match us, hl with | [_], _ => rfl)
    have Gread_number : FnOk P w K mg base CX0 2 (He.ga K "read_number") fd2 ["text"] spRnm := ok_rnm  F2 T Gnumber_in (He.glo_ok X G (c.fact 0 (f := .glo "number_in") rfl)) (He.keep_ok (c.fact 21 (f := .keep "number_in") rfl)) bnumber_in
    have bread_number : Binds K fd2 ["text"] [] := (FunD.bindsN F2 fun _ _ _ _ _ _ us hl => match us, hl with | [_], _ => rfl)
    have Gread_report : FnOk P w K mg base CX0 3 (He.ga K "read_report") fd3 ["text"] (spRrp K) := ok_rrp  F3 T Gread_number (He.glo_ok X G (c.fact 2 (f := .glo "read_number") rfl)) (He.keep_ok (c.fact 23 (f := .keep "read_number") rfl)) bread_number
    have bread_report : Binds K fd3 ["text"] [] := (FunD.bindsN F3 fun _ _ _ _ _ _ us hl => match us, hl with | [_], _ => rfl)
    have GIT : FnOk P w K mg base CX0 1 (He.ma K (He.ga K "InvalidText") "__init__") fd12 ["self"] (spX0 (He.ga K "InvalidText") "InvalidText") := okxInvalidText F12 RInvalidText
    have GRnX : FnOk P w K mg base (L2.CX P w) 3 (He.ga K "read_number") fd2 ["text"] (spRnmX (He.ga K "InvalidText")) := ok_rnmX F2 T Gnumber_in (He.glo_ok X G (c.fact 0 (f := .glo "number_in") rfl)) (He.keep_ok (c.fact 21 (f := .keep "number_in") rfl)) bnumber_in RInvalidText GIT (bxInvalidText F12)
    have GRnE : FnOk P w K mg base (L2.CX P w) 3 (He.ga K "read_number") fd2 ["text"] (spRnmE (He.ga K "InvalidText")) := FnOk.or ((FnOk.any Gread_number).mono (by decide)) GRnX
    have GRrX : FnOk P w K mg base (L2.CX P w) 4 (He.ga K "read_report") fd3 ["text"] (spRrpX K (He.ga K "InvalidText")) := ok_rrpX F3 T GRnE (He.glo_ok X G (c.fact 2 (f := .glo "read_number") rfl)) (He.keep_ok (c.fact 23 (f := .keep "read_number") rfl)) bread_number RInvalidText GIT (bxInvalidText F12)
    exact FnOk.or ((FnOk.any Gread_report).mono (by decide)) GRrX
  have Gnumber_in : FnOk P w K mg base CX0 1 (He.ga K "number_in") fd0 ["word"] spNin := ok_nin  F0 T (He.int_ok X G (c.fact 30 (f := .int "MOST_DIGITS" 31) rfl))
  have bnumber_in : Binds K fd0 ["word"] [] := (FunD.bindsN F0 fun _ _ _ _ _ _ us hl => match us, hl with | [_], _ => rfl)
  have Greport_text : FnOk P w K mg base CX0 1 (He.ga K "report_text") fd1 ["report"] (spRtx K) := ok_rtx  F1 T
  have breport_text : Binds K fd1 ["report"] [] := (FunD.bindsN F1 fun _ _ _ _ _ _ us hl => match us, hl with | [_], _ => rfl)
  have Gread_number : FnOk P w K mg base CX0 2 (He.ga K "read_number") fd2 ["text"] spRnm := ok_rnm  F2 T Gnumber_in (He.glo_ok X G (c.fact 0 (f := .glo "number_in") rfl)) (He.keep_ok (c.fact 21 (f := .keep "number_in") rfl)) bnumber_in
  have bread_number : Binds K fd2 ["text"] [] := (FunD.bindsN F2 fun _ _ _ _ _ _ us hl => match us, hl with | [_], _ => rfl)
  have Gread_report : FnOk P w K mg base CX0 3 (He.ga K "read_report") fd3 ["text"] (spRrp K) := ok_rrp  F3 T Gread_number (He.glo_ok X G (c.fact 2 (f := .glo "read_number") rfl)) (He.keep_ok (c.fact 23 (f := .keep "read_number") rfl)) bread_number
  have bread_report : Binds K fd3 ["text"] [] := (FunD.bindsN F3 fun _ _ _ _ _ _ us hl => match us, hl with | [_], _ => rfl)
  have G_law_bag : FnOk P w K mg base CX0 1 (He.ga K "_law_bag") fd4 ["_law_script"] (spBag K) := ok_bag  F4 (He.free_ok X G (c.fact 14 (f := .free "int") rfl)) (He.free_ok X G (c.fact 11 (f := .free "list") rfl))
  have b_law_bag : Binds K fd4 ["_law_script"] [] := (FunD.bindsN F4 fun _ _ _ _ _ _ us hl => match us, hl with | [_], _ => rfl)
  have G_law_pull : FnOk P w K mg base CX0 1 (He.ga K "_law_pull") fd5 ["_law_bag_here", "_law_amount"] spPull := ok_pull  F5 (He.free_ok X G (c.fact 16 (f := .free "len") rfl)) (He.free_ok X G (c.fact 14 (f := .free "int") rfl))
  have b_law_pull : Binds K fd5 ["_law_bag_here", "_law_amount"] [] := (FunD.bindsN F5 fun _ _ _ _ _ _ us hl => match us, hl with | [_, _], _ => rfl)
  have G_law_of : FnOk P w K mg base CX0 2 (He.ga K "_law_of") fd6 ["_law_bag_here", "_law_things"] (spOf K) := ok_of  F6 F5 (He.glo_ok X G (c.fact 5 (f := .glo "_law_pull") rfl)) (He.free_ok X G (c.fact 16 (f := .free "len") rfl)) (He.free_ok X G (c.fact 14 (f := .free "int") rfl))
  have b_law_of : Binds K fd6 ["_law_bag_here", "_law_things"] [] := (FunD.bindsN F6 fun _ _ _ _ _ _ us hl => match us, hl with | [_, _], _ => rfl)
  have G_law_same : FnOk P w K mg base CX0 4 (He.ga K "_law_same") fd7 ["_law_found", "_law_due"] (spSame 3) := ok_same F7 T (He.glo_ok X G (c.fact 7 (f := .glo "_law_same") rfl)) 3
  have b_law_same : Binds K fd7 ["_law_found", "_law_due"] [] := (FunD.bindsN F7 fun _ _ _ _ _ _ us hl => match us, hl with | [_, _], _ => rfl)
  have G_law_is_digits : FnOk P w K mg base CX0 1 (He.ga K "_law_is_digits") fd8 ["_law_text_z"] spDgt := ok_dgt  F8 T
  have b_law_is_digits : Binds K fd8 ["_law_text_z"] [] := (FunD.bindsN F8 fun _ _ _ _ _ _ us hl => match us, hl with | [_], _ => rfl)
  have kFld := (He.keep_ok (c.fact 32 (f := .keep "_law_field") rfl))
  have gFld := (He.glo_ok X G (c.fact 31 (f := .glo "_law_field") rfl))
  have bFld : Binds K fd10 ["_law_e"] [] := (FunD.bindsN F10 fun _ _ _ _ _ _ us hl => match us, hl with | [_], _ => rfl)
  have bTry : Binds K fd11 ["_law_ask"] [] := (FunD.bindsN F11 fun _ _ _ _ _ _ us hl => match us, hl with | [_], _ => rfl)
  have hTry : ∀ base : Heap, FnOk P w K mg base CX0 15 (He.ga K "_law_try") fd11 ["_law_ask"] (spTry P w K mg (He.ga K "TeamError") (He.ga K "Missing") (He.ga K "NothingLeft") 11 base) := fun base => ok_try F11 F10 gFld kFld bFld (He.glo_ok X G (c.fact 35 (f := .glo "TeamError") rfl)) (He.glo_ok X G (c.fact 36 (f := .glo "Missing") rfl)) (He.glo_ok X G (c.fact 37 (f := .glo "NothingLeft") rfl))
  refine ok_law lkL hcdL ?_ TB
  exact {
    T := T
    brange := (He.free_ok X G (c.fact 20 (f := .free "range") rfl))
    fdBag := fd4
    GBag := G_law_bag
    gBag := (He.glo_ok X G (c.fact 4 (f := .glo "_law_bag") rfl))
    kBag := (He.keep_ok (c.fact 25 (f := .keep "_law_bag") rfl))
    bBag := b_law_bag
    fdPull := fd5
    GPull := G_law_pull
    gPull := (He.glo_ok X G (c.fact 5 (f := .glo "_law_pull") rfl))
    kPull := (He.keep_ok (c.fact 26 (f := .keep "_law_pull") rfl))
    bPull := b_law_pull
    fdOf := fd6
    GOf := G_law_of
    gOf := (He.glo_ok X G (c.fact 6 (f := .glo "_law_of") rfl))
    kOf := (He.keep_ok (c.fact 27 (f := .keep "_law_of") rfl))
    bOf := b_law_of
    fdSame := fd7
    GSame := G_law_same
    gSame := (He.glo_ok X G (c.fact 7 (f := .glo "_law_same") rfl))
    kSame := (He.keep_ok (c.fact 28 (f := .keep "_law_same") rfl))
    bSame := b_law_same
    fdDg := fd8
    GDg := G_law_is_digits
    gDg := (He.glo_ok X G (c.fact 8 (f := .glo "_law_is_digits") rfl))
    kDg := (He.keep_ok (c.fact 29 (f := .keep "_law_is_digits") rfl))
    bDg := b_law_is_digits
    fdRr := fd3
    GRr := Gread_report
    gRr := (He.glo_ok X G (c.fact 3 (f := .glo "read_report") rfl))
    kRr := (He.keep_ok (c.fact 24 (f := .keep "read_report") rfl))
    bRr := bread_report
    fdRt := fd1
    GRt := Greport_text
    gRt := (He.glo_ok X G (c.fact 1 (f := .glo "report_text") rfl))
    kRt := (He.keep_ok (c.fact 22 (f := .keep "report_text") rfl))
    bRt := breport_text
    fdTry := fd11
    GTry := hTry
    gTry := (He.glo_ok X G (c.fact 33 (f := .glo "_law_try") rfl))
    kTry := (He.keep_ok (c.fact 34 (f := .keep "_law_try") rfl))
    bTry := (FunD.bindsN F11 fun _ _ _ _ _ _ us hl => match us, hl with | [_], _ => rfl)
    FRt := F1
    FRr := F3
    GRx := hX
    eT := errB_ok x2
  }
end K52

namespace K52
open PySem L2 Evl OxK
end K52
open PySem PySem.W PySem.Calls PyProof.Rows
theorem PySem.Challenge.cw_othersknow_k52_report_texts_holds : PySem.Challenge.rw_othersknow_k52_report_texts.Holds := by
  w_on; o_law
  refine HandSHeadRun.head_any (r := OpenLaw.row PySem.Challenge.rw_othersknow_k52_report_texts) (q := view (OpenLaw.row PySem.Challenge.rw_othersknow_k52_report_texts).prog [19]) (H := K52.hk) (ob := K52.ob) (M := 20000) (loose := K52.lse) (d := HandSHeadRun.topDef (OpenLaw.row PySem.Challenge.rw_othersknow_k52_report_texts).prog 19) (kwd := []) K52.ob_eq
    (by kernel_rfl) (fun s => by kernel_rfl) K52.run (by kernel_rfl) (by kernel_rfl) (by kernel_rfl) (by rfl) (by first | assumption | decide +kernel) (by decide +kernel) ⟨rfl, rfl, rfl, rfl, rfl, by decide +kernel⟩ ?hw ?hc
  case hw => w_witness2
  case hc =>
    refine LamX.walk_ofTsE (l := PySem.Challenge.rw_othersknow_k52_report_texts) (n := 63) (k := 18) (x := "_law_script") (CX := fun _ => L2.CX0) rfl (by decide) (by kernel_rfl) ⟨rfl, by decide, by decide⟩ ?F (fun _ _ _ _ _ z => z)
    intro w mg fa h Y G hmg0
    obtain ⟨K, KX, d⟩ := Y
    have hmg : mg ("law" : PySem.Str) = some (.ref fa) := by
      have e : (HandSHeadRun.topDef (OpenLaw.row PySem.Challenge.rw_othersknow_k52_report_texts).prog 19).name = ("law" : PySem.Str) := by kernel_rfl
      rw [← e]
      exact hmg0
    obtain ⟨fd, c, PT, ⟨rfl, rfl⟩, hb, hF⟩ := K52.facts (P := (PySem.Challenge.rw_othersknow_k52_report_texts).prog) (w := w) KX G hmg d
    exact ⟨K, KX, fd, [((He.cT K HkZ.lawD).1, (He.cT K HkZ.lawD).2)], K52.spLaw K (K52.TL (He.cT K HkZ.lawD).2), fun p hp => by rw [List.mem_singleton.mp hp]; exact d.empty, fun p hp => by rw [List.mem_singleton.mp hp]; exact d.out, fun p hp => by rw [List.mem_singleton.mp hp]; exact PySem.W.codeHd_of_K KX d.hd, hb,
      fun H a ns hl _ hT hS => ⟨a, ns, rfl, hS, by omega, fun p hp => by rw [List.mem_singleton.mp hp]; exact LamX.TabS.nil (hT _ List.mem_cons_self), fun _ => rfl⟩, fun base _ _ TB => hF base (TB _ List.mem_cons_self)⟩

